/- 'grommetlaw08.BinCustom' returns true where what it reads is of bulk at most 1048576, and each argument reads afterwards as it read before; what it lists of package-level variables is tied to the program's text: Rows.BinCustomUptoCardSaid. Condition: the bulk of the arguments, as the statement has it. -/
import Derived.Test.YteoijlfipmaoeaaGreatDoorPJ2
import Derived.Test.YteoijlfipmaoeaaGreatDoorPJ17
import Derived.Test.YteoijlfipmaoeaaGreatDoorPBinW3
import Derived.Test.YteoijlfipmaoeaaGreatDoorCards
import Derived.Test.YteoijlfipmaoeaaGreatDoorTie
import Derived.SevenTiedAt
import Derived.Stop.Joined
import Derived.Deep.DeepHandedRow
import Derived.Deep.DeepWitnessRowRef
set_option linter.unusedVariables false
set_option linter.unusedSimpArgs false
namespace Go.Proofs.YteoijlfipmaoeaaGreatDoor.binCustom
open Go.ChangeShapes Go.WideShapes Go.ChangeAt Go.RowKit
set_option maxRecDepth 100000 in
theorem reads(os:Os){H:Type}(enc:TypeId×Value→H):∃places,DataW.whole enc Tryz.prog ((laidWorld os).forCall (λ_ _=>0) ⟨#[],#[.agg #[.slice none 0 0,.slice none 0 0,.slice none 0 0,.slice none 0 0,.slice none 0 0,.slice none 0 0,.slice none 0 0,.int .i64 0,.slice none 0 0,.slice none 0 0,.slice none 0 0],.slice none 0 0],[]⟩).memory Tryz.f5.params.toList Rows.binCustomSpec.vars false (#[.agg #[.slice none 0 0,.slice none 0 0,.slice none 0 0,.slice none 0 0,.slice none 0 0,.slice none 0 0,.slice none 0 0,.int .i64 0,.slice none 0 0,.slice none 0 0,.slice none 0 0],.slice none 0 0]:Array Value).toList 8=some ([.agg [.nil,.nil,.nil,.nil,.nil,.nil,.nil,.lit (.int .i64 0),.nil,.nil,.nil],.nil],[],places):=
 ⟨[],by kernel_rfl⟩
set_option maxRecDepth 100000 in
theorem lifted(os:Os)(started:os.Started)(H:Type)(enc:TypeId×Value→H)(F:Stop.Interp):
  ReturnsInHanded {} Tryz.checked os 5 .any ((Rows.OpenSpec.upto Rows.binCustomSpec).preRow enc Tryz.prog Tryz.f5 Rows.binCustomUptoRow.domain false Rows.binCustomUptoRow.laid) (((Rows.OpenSpec.upto Rows.binCustomSpec).at F).post enc Tryz.prog Tryz.f5 false true false false):=by
 obtain⟨places,hx⟩:=reads os enc
 refine returnsInHanded_of_row (C:=Tryz.checked) (s:=Rows.OpenSpec.upto Rows.binCustomSpec) own_knob started (by kernel_rfl) Tryz.func5
  (witness_row_atRef (enc:=enc) (C:=Tryz.checked) false (laidWorld os) #[.agg #[.slice none 0 0,.slice none 0 0,.slice none 0 0,.slice none 0 0,.slice none 0 0,.slice none 0 0,.slice none 0 0,.int .i64 0,.slice none 0 0,.slice none 0 0,.slice none 0 0],.slice none 0 0] (laidWorld_os os) (by kernel_rfl) (by kernel_rfl) (by kernel_rfl)
   (OpenSpec.preRow_of_cond 8 hx (by kernel_rfl) (λk hk=>by cases hk;kernel_rfl) (by kernel_rfl) (laidWorld_met os _))) ?_
 intro W base args ds gs before hval0 hW _ hcond hall hL hsh _
 have hval:∀(j:Nat) t v,Tryz.f5.params[j]? =some t→args[j]? =some v→Value.okWide Tryz.prog W .any base t v:=hval0
 have hW':=hW
 obtain⟨p,q,hA0,hV,rfl,hfz,hnd⟩:=hW
 have hA:DataW.TrodAll enc Tryz.prog W 0 (λ_=>true) true Tryz.f5.params.toList args.toList ds p:=hA0
 rw[Tryz.params5]at hA hval hall
 obtain⟨v0,vs0,d0,ds0,p0,q0,hargs,rfl,rfl,h0,r0⟩:=trodAll_cons hA
 obtain⟨v1,vs1,d1,ds1,p1,q1,rfl,rfl,rfl,h1,r1⟩:=trodAll_cons r0
 obtain⟨rfl,rfl,rfl⟩:=trodAll_nil r1
 obtain rfl:args=#[v0,v1]:=by cases args;simp_all
 obtain⟨rfl,rfl⟩:=trodVars_none hV
 have k0:=h0
 have lt0:∀x∈p0,x.block<W.heap.size:=by obtain⟨m,hm⟩:=k0;exact DataW.trod_lt m _ _ _ hm
 have k1:=h1
 have lt1:∀x∈p1,x.block<W.heap.size:=by obtain⟨m,hm⟩:=k1;exact DataW.trod_lt m _ _ _ hm
 obtain⟨cs0,rfl,-⟩:=okWide_struct Tryz.underlying32 (hval 0 32 v0 rfl rfl)
 obtain⟨m0,hmv0,o0,cn0⟩:∃m:Mo,cs0=m.cells.toArray∧m.ok W W.heap.size∧(Rows.uptoBulk d0≤1048576→Cn m):=by
  obtain⟨fuel,hf⟩:=h0
  obtain⟨m,hc,ho⟩:=open_mo hf (lw_of hall (i:=0) (t:=32) rfl rfl)
  have h1:cs0.toList=m.cells:=hc
  refine⟨m,?_,ho,λhb=>mo_bulk (by rw[←h1];exact hf) ho hb⟩
  rw[←h1]
 subst hmv0
 obtain⟨A1,len1,c1,rfl⟩:=okWide_slice Tryz.underlying35 (hval 1 35 v1 rfl rfl)
 obtain⟨b1,rfl,s1,l1,m1⟩:∃bs:List UInt8,len1=bs.length∧Sl W W.heap.size A1 (u8s bs)∧bs.length≤c1∧c1≤maxLen:=by
  obtain⟨fuel,hf⟩:=h1
  rcases open_ints Tryz.underlying35 Tryz.underlying5 (by kernel_rfl) hf with⟨hcs,_⟩|⟨x,l,c,zs,hcs,_,hl,hm,hz,_,hcell,hwz⟩
  ·simp[Value.cells]at hcs
   obtain⟨rfl,rfl,rfl⟩:=hcs
   exact⟨[],rfl,Sl.nil_,Nat.le_refl _,Nat.zero_le _⟩
  ·simp[Value.cells]at hcs
   obtain⟨rfl,rfl,rfl⟩:=hcs
   have hz':zs.length=c1:=by simpa using hz
   obtain⟨bs,hb1,hb2⟩:=bytes_of_row (len:=len1) (by omega) hcell hwz
   exact⟨bs,hb1.symm,hb2,by omega,hm⟩
 have hbk:Rows.uptoBulkAll ([d0,d1]++[])≤1048576:=of_decide_eq_true (hcond _ rfl)
 simp only[List.append_nil,Rows.uptoBulkAll]at hbk
 clear hA0 hval0
 obtain⟨hNam,hEt,hU8⟩:=std_of_laid hL hsh
 refine(walk_BinCustom m0 A1 c1 b1 W o0 (cn0 (by omega)) s1 l1 m1 hNam hEt hU8).mono λe W' ⟨he,bel⟩=>?_
 subst he
 exact⟨_,rfl,_,_,_,[],_,[],hW',trodAll_mk1 (shut_bool Tryz.underlying4 _),(trodAll_cons_mk (Below.trod laid_out (by kernel_rfl) (of_decide_eq_true (by kernel_rfl)) k0 bel lt0) (trodAll_cons_mk (Below.trod laid_out (by kernel_rfl) (of_decide_eq_true (by kernel_rfl)) k1 bel lt1) trodAll_mk0)),rfl,bel.frame _,λh=>by cases h⟩
set_option maxHeartbeats 64000000 in
theorem closed:joinedFacts Tryz.pinned.checked.prog 5 Tryz.f5 (Rows.OpenSpec.upto Rows.binCustomSpec).bare Rows.binCustomUptoRow=true:=by
 unfold joinedFacts
 repeat'(with_reducible refine Bool.and_eq_true_iff.2 ⟨?_,?_⟩)
 all_goals(as_aux_lemma=>kernel_rfl)
theorem row_holds:Rows.BinCustomUptoSaid:=
 OpenClaim.holds_of_cond 5 Tryz.f5 rfl rfl rfl rfl rfl rfl rfl ⟨rfl,rfl,rfl,rfl,rfl⟩ rfl rfl rfl rfl rfl (by kernel_rfl) Tryz.func5 closed
  (of_decide_eq_true (by kernel_rfl)) (by unfold Func.isWrapper;first|(rw[if_pos (by decide +kernel)];kernel_rfl)|(rw[if_neg (by decide +kernel)];exact⟨rfl,rfl⟩))
  (λos started H enc _ F=>by rw[OpenClaim.pre_eq_preRow];exact lifted os started H enc F)
theorem proved:Rows.BinCustomUptoCardSaid:=
 Claim7.holds_tied_plain_at .later [] _ _ _ _ row_holds (λ_ h=>by cases h) (by kernel_rfl) (λ_ h=>by cases h) binCustomUpto_row_tie rfl ⟨rfl,rfl⟩ (by kernel_rfl) rfl
  (λf fn hf hfn=>by
   obtain rfl:f=5:=Option.some.inj ((show Tryz.prog.funcNamed "grommet/grommetlaw08.BinCustom" =some 5 by kernel_rfl).symm.trans hf) |>.symm
   obtain rfl:fn=Tryz.f5:=(Option.some.inj (Tryz.func5.symm.trans hfn)).symm
   exact⟨by kernel_rfl,λj t ht=>by
    rw[Tryz.params5]at ht
    have hm:t∈[32,35]:=by
     have hm':t∈([32,35]:List Nat):=by simpa using Array.mem_of_getElem? ht
     exact(by decide:∀u∈([32,35]:List Nat),u∈[32,35]) t hm'
    have hall:([32,35].all λu=>!Tryz.prog.wantsStandIn u)=true:=by kernel_rfl
    have hq:=List.all_eq_true.1 hall t hm
    have hq2:Tryz.prog.wantsStandIn t=false:=by simpa using hq
    exact hq2⟩)
  (by kernel_rfl)
#print axioms proved
end Go.Proofs.YteoijlfipmaoeaaGreatDoor.binCustom
