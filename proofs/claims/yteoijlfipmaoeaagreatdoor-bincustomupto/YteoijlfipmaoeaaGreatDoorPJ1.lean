import Derived.Test.YteoijlfipmaoeaaGreatDoorPA
import Derived.WalkKit
import Derived.ProofKit
import Derived.Lib.Hide
import Derived.Deep.QuietTactic
import Derived.BigQuiet
import Derived.Laws.OwnMore
import Derived.Deep.Draws
import Derived.WalkLawsBesides
import Derived.WalkSpells
import Derived.Laws.BytesArg
import Derived.Laws.BitsAllLaws
import Derived.IntWalk
import Derived.LaidEql
import Derived.OpenShut
import Derived.ShutString
import Derived.ChangeOld
import Derived.Below
import Derived.Maps.AppendAt
import Derived.OwnWalk
import Derived.Laws.BitsLemmas
import Derived.Laws.ShiftsVarLaws
import Derived.StillTailTactics
import Derived.Deep.RegionHeld
set_option linter.unusedVariables false
set_option linter.unusedSimpArgs false
set_option maxRecDepth 100000
set_option maxHeartbeats 4000000
namespace Go.Proofs.YteoijlfipmaoeaaGreatDoor
open Lib (hid)
open Go.RowKit
open Go.Proofs.Tryz
def Sl(w:World)(B:Nat)(A:Option Addr)(vs:List Value):Prop:=
 vs≠[]->∃b off,A=some ⟨b,off,none⟩/\b<B/\∀i,i<vs.length->w.cell? ⟨b,off+i,none⟩=vs[i]?
def u8s(bs:List UInt8):List Value:=bs.map λb=>.int .u8 (b.toNat:Int)
@[simp] theorem u8s_length(bs:List UInt8):(u8s bs).length=bs.length:=by simp[u8s]
theorem u8s_get(bs:List UInt8)(i:Nat)(h:i<bs.length):(u8s bs)[i]? =some (.int .u8 ((bs[i]).toNat:Int)):=by
 simp[u8s,h]
theorem u8s_take(bs:List UInt8)(n:Nat):u8s (bs.take n)=(u8s bs).take n:=by simp[u8s,xu]
theorem u8s_drop(bs:List UInt8)(n:Nat):u8s (bs.drop n)=(u8s bs).drop n:=by simp[u8s,List.map_drop]
section
variable{w w':World}{B B':Nat}{A:Option Addr}{vs:List Value}
theorem Sl.nil_:Sl w B A []:=λh=>absurd rfl h
theorem Sl.keep(h:Sl w B A vs)(hk:∀b o,b<B->w'.cell? ⟨b,o,none⟩=w.cell? ⟨b,o,none⟩):Sl w' B A vs:=λhn=>by
 obtain⟨b,off,e,hb,hc⟩:=h hn
 exact⟨b,off,e,hb,λi hi=>(hk _ _ hb).trans (hc i hi)⟩
theorem Sl.more(h:Sl w B A vs)(hB:B<=B'):Sl w B' A vs:=λhn=>by
 obtain⟨b,off,e,hb,hc⟩:=h hn
 exact⟨b,off,e,by omega,hc⟩
theorem Sl.below(h:Sl w B A vs)(hb:Below B w w'):Sl w' B A vs:=h.keep λb o hp=>hb.cell (p:=⟨b,o,none⟩) hp
theorem Sl.drewN(h:Sl w B A vs)(k:Nat):Sl (w.drewN k) B A vs:=h
theorem Sl.take(h:Sl w B A vs)(n:Nat):Sl w B A (vs.take n):=λhn=>by
 obtain⟨b,off,e,hb,hc⟩:=h (λe=>hn (by simp[e]))
 refine⟨b,off,e,hb,λi hi=>?_⟩
 rw[qh]at hi
 rw[hc i (by omega),ja,if_pos (by omega)]
theorem Sl.drop(h:Sl w B A vs){k cap:Nat}(hc:vs.length<=cap):Sl w B (if cap=k then A else A.map (·.add k)) (vs.drop k):=λhn=>by
 have hk:k<vs.length:=by
  rcases qm k vs.length with h1|h1
  ·exact h1
  ·exact absurd (xp h1) hn
 obtain⟨b,off,rfl,hb,hcell⟩:=h (λe=>by simp[e]at hk)
 rw[if_neg (by omega)]
 refine⟨b,off+k,by by_cases e:k=0<;>simp[Addr.add,e],hb,λi hi=>?_⟩
 rw[qc]at hi
 rw[show off+k+i=off+(k+i)by omega,hcell _ (by omega),jk]
end
theorem run_str_of{P:Program}{w:World}{B:Nat}{A:Option Addr}{bs:List UInt8}(src dst e:TypeId)(hs:P.underlying src=some (.slice e))(he:P.underlying e=some (.int .u8))(hd:P.underlying dst=some .string)
  (h:Sl w B A (u8s bs)) (c:Nat):(convert src dst (.slice A bs.length c)).run P w=.ok (.string ⟨bs.toArray⟩) w:=by
 by_cases hb:bs=[]
 ·
  subst hb
  cases A with
  |none=>exact run_convert_bytes_nil w src e hs he _ _ dst hd
  |some a=>
   rw[run_convert_bytes_string w src dst e _ _ c hs he hd,run_bytesToString w _ _ c [] (by simp[loadCells,loadCellsFrom])]
   rfl
 ·
  obtain⟨b,off,rfl,_,hc⟩:=h (by intro e;exact hb (by have:=congrArg List.length e;simpa using this))
  have:=run_convert_bytes_arg (P:=P) w src e hs he b off bs.length c (bs.map λx=>(x.toNat:Int)) (by simp) (λi hi=>by
   rw[hc i (by simpa using hi),u8s_get bs i hi]
   simp[hi]) dst hd
  rw[this]
  congr 2
  have e:((λn:Int=>UInt8.ofNat n.toNat)∘λx:UInt8=>(x.toNat:Int))=id:=by funext x;simp
  simp[strOfNums,e]
theorem quiet_same{P:Program}{f:FuncId}{args:Array Value}{w:World}{n:Nat}{v:Value}
  (h:Calls P f args (w.drewN n) λe w'=>e=.returned v/\w.drewN n=w'):Calls P f args (w.drewN n) λe w''=>e=.returned v/\∃m,w''=w.drewN m:=
 h.mono λ_ _ ⟨he,hm⟩=>⟨he,n,hm.symm⟩
theorem postL{P:Program}{f:FuncId}{a:Array Value}{w:World}{Q:Ending->World->Prop}(H:∀R,Q=R->Calls P f a w R):Calls P f a w Q:=H Q rfl
theorem ret_int{k:IntKind}{a b:Int}(h:a=b):Ending.returned (.int k a)=.returned (.int k b):=by rw[h]
theorem ret_bool{a b:Bool}(h:a=b):Ending.returned (.bool a)=.returned (.bool b):=by rw[h]
theorem isAsk_any(op:Int)(w:World):
  Calls prog 307 #[.int .i64 op] w λe w'=>e=.returned (.bool (decide (69<=op/\op<=79)))/\w=w':=by
 by_cases h:69<=op
 ·
  by_cases h2:op<=79
  all_goals
   go_enter func307,ntmps307
   go_wp2
   go_ret
   exact⟨ret_bool (by simp;omega),rfl⟩
 ·
  go_enter func307,ntmps307
  go_wp2
  go_ret
  exact⟨ret_bool (by simp;omega),rfl⟩
theorem isReckon_any(op:Int)(w:World):
  Calls prog 308 #[.int .i64 op] w λe w'=>e=.returned (.bool (decide (103<=op/\op<=120)))/\w=w':=by
 by_cases h:103<=op
 ·
  by_cases h2:op<=120
  all_goals
   go_enter func308,ntmps308
   go_wp2
   go_ret
   exact⟨ret_bool (by simp;omega),rfl⟩
 ·
  go_enter func308,ntmps308
  go_wp2
  go_ret
  exact⟨ret_bool (by simp;omega),rfl⟩
namespace Num
def nrw(op:Int):Int×Int:=
 if(69<=op/\op<=79)\/(103<=op/\op<=120)\/op=172\/op=173 then(op,32)
 else if 80<=op/\op<=90 then(op-11,64)else if 121<=op/\op<=138 then(op-18,64)
 else if op=167 then(167,64)else(0,0)
def many(op:Int):Int:=
 if op=69\/op=80\/(103<=op/\op<=105)\/(121<=op/\op<=123)\/op=167\/op=172\/op=173 then 1
 else if(70<=op/\op<=79)\/(81<=op/\op<=90)\/(106<=op/\op<=120)\/(124<=op/\op<=138)then 2 else 0
end Num
theorem isAsk_b(o:Int)(b:Bool)(w:World)(hb:decide (69<=o/\o<=79)=b):
  Calls prog 307 #[.int .i64 o] w λe w'=>e=.returned (.bool b)/\w=w':=hb▸isAsk_any o w
theorem isReckon_b(o:Int)(b:Bool)(w:World)(hb:decide (103<=o/\o<=120)=b):
  Calls prog 308 #[.int .i64 o] w λe w'=>e=.returned (.bool b)/\w=w':=hb▸isReckon_any o w
theorem narrow_any(op:Int)(w:World)(h0: -9223372036854775808<=op)(h1:op<=9223372036854775807):
  Calls prog 303 #[.int .i64 op] w λe w'=>e=.returned (.tuple #[.int .i64 (Num.nrw op).1,.int .i64 (Num.nrw op).2])/\w=w':=by
 by_cases c1:69<=op/\op<=79
 ·
  have e:Num.nrw op=(op,32):=by simp only[Num.nrw];rw[if_pos (by omega)]
  rw[e]
  have HA:=hid (λw=>isAsk_b op true w (by simp;omega))
  clear e c1
  go_enter func303,ntmps303
  go_wp2_with(go_at_call 307;refine(HA.out _).mono ?_;rintro e w' ⟨rfl,rfl⟩)
  go_ret2
  exact⟨rfl,rfl⟩
 have HA:=hid (λw=>isAsk_b op false w (by simp;omega))
 by_cases c2:103<=op/\op<=120
 ·
  have e:Num.nrw op=(op,32):=by simp only[Num.nrw];rw[if_pos (by omega)]
  rw[e]
  have HB:=hid (λw=>isReckon_b op true w (by simp;omega))
  clear e c1 c2
  go_enter func303,ntmps303
  go_wp2_with(first|(go_at_call 307;refine(HA.out _).mono ?_;rintro e w' ⟨rfl,rfl⟩)|(go_at_call 308;refine(HB.out _).mono ?_;rintro e w' ⟨rfl,rfl⟩))
  go_ret2
  exact⟨rfl,rfl⟩
 have HB:=hid (λw=>isReckon_b op false w (by simp;omega))
 by_cases c3:op=172
 ·
  subst c3
  clear c1 c2
  go_enter func303,ntmps303
  go_wp2_with(first|(go_at_call 307;refine(HA.out _).mono ?_;rintro e w' ⟨rfl,rfl⟩)|(go_at_call 308;refine(HB.out _).mono ?_;rintro e w' ⟨rfl,rfl⟩))
  go_ret2
  exact⟨rfl,rfl⟩
 by_cases c4:op=173
 ·
  subst c4
  clear c1 c2
  go_enter func303,ntmps303
  go_wp2_with(first|(go_at_call 307;refine(HA.out _).mono ?_;rintro e w' ⟨rfl,rfl⟩)|(go_at_call 308;refine(HB.out _).mono ?_;rintro e w' ⟨rfl,rfl⟩))
  go_ret2
  exact⟨rfl,rfl⟩
 have t3:(op==172)=false:=by simp[c3]
 have t4:(op==173)=false:=by simp[c4]
 obtain⟨p,hp⟩:∃p,p=wrap64 (op-11):=⟨_,rfl⟩
 obtain⟨q,hq⟩:∃q,q=wrap64 (op-18):=⟨_,rfl⟩
 by_cases c5:80<=op/\op<=90
 ·
  have e:Num.nrw op=(op-11,64):=by simp only[Num.nrw];rw[if_neg (by omega),if_pos (by omega)]
  rw[e]
  have HC:=hid (λw=>isAsk_b (op-11) true w (by simp;omega))
  clear e hp hq c1 c2
  obtain⟨c51,c52⟩:=c5
  go_enter func303,ntmps303
  go_wp2_with(first|(go_at_call 307;first|(with_reducible refine(HA.out _).mono ?_;rintro e w' ⟨rfl,rfl⟩)|(with_reducible refine(HC.out _).mono ?_;rintro e w' ⟨rfl,rfl⟩))|(go_at_call 308;refine(HB.out _).mono ?_;rintro e w' ⟨rfl,rfl⟩))
  go_ret2
  exact⟨rfl,rfl⟩
 have HC:=hid (λw=>isAsk_b (wrap64 (op-11)) false w (by unfold wrap64;simp;omega))
 by_cases c6:121<=op/\op<=138
 ·
  have e:Num.nrw op=(op-18,64):=by simp only[Num.nrw];rw[if_neg (by omega),if_neg (by omega),if_pos (by omega)]
  rw[e]
  have HC:=hid (λw=>isAsk_b (op-11) false w (by simp;omega))
  have HD:=hid (λw=>isReckon_b (op-18) true w (by simp;omega))
  clear e hp hq c1 c2 c5
  obtain⟨c51,c52⟩:=c6
  go_enter func303,ntmps303
  go_wp2_with(first|(go_at_call 307;first|(with_reducible refine(HA.out _).mono ?_;rintro e w' ⟨rfl,rfl⟩)|(with_reducible refine(HC.out _).mono ?_;rintro e w' ⟨rfl,rfl⟩))|(go_at_call 308;first|(with_reducible refine(HB.out _).mono ?_;rintro e w' ⟨rfl,rfl⟩)|(with_reducible refine(HD.out _).mono ?_;rintro e w' ⟨rfl,rfl⟩)))
  go_ret2
  exact⟨rfl,rfl⟩
 have HD:=hid (λw=>isReckon_b (wrap64 (op-18)) false w (by unfold wrap64;simp;omega))
 by_cases c7:op=167
 ·
  subst c7
  clear HC HD
  have HC:=hid (λw=>isAsk_b 156 false w (by simp))
  have HD:=hid (λw=>isReckon_b 149 false w (by simp))
  clear hp hq c1 c2 c5 c6 c3 c4
  go_enter func303,ntmps303
  go_wp2_with(first|(go_at_call 307;first|(with_reducible refine(HA.out _).mono ?_;rintro e w' ⟨rfl,rfl⟩)|(with_reducible refine(HC.out _).mono ?_;rintro e w' ⟨rfl,rfl⟩))|(go_at_call 308;first|(with_reducible refine(HB.out _).mono ?_;rintro e w' ⟨rfl,rfl⟩)|(with_reducible refine(HD.out _).mono ?_;rintro e w' ⟨rfl,rfl⟩)))
  go_ret2
  exact⟨rfl,rfl⟩
 have t7:(op==167)=false:=by simp[c7]
 have e:Num.nrw op=(0,0):=by simp only[Num.nrw];rw[if_neg (by omega),if_neg (by omega),if_neg (by omega),if_neg (by omega)]
 rw[e]
 clear e c1 c2 c5 c6 hp hq h0 h1
 go_enter func303,ntmps303
 go_wp2_with(first|(go_at_call 307;first|(with_reducible refine(HA.out _).mono ?_;rintro e w' ⟨rfl,rfl⟩)|(with_reducible refine(HC.out _).mono ?_;rintro e w' ⟨rfl,rfl⟩))|(go_at_call 308;first|(with_reducible refine(HB.out _).mono ?_;rintro e w' ⟨rfl,rfl⟩)|(with_reducible refine(HD.out _).mono ?_;rintro e w' ⟨rfl,rfl⟩)))
 go_ret2
 exact⟨rfl,rfl⟩
def argsR(op:Int):Value:=.tuple #[.int .i64 (Num.many op),.bool (decide (Num.many op≠0))]
theorem many_one(op:Int)(h:Num.many op=1):op=69\/op=80\/(103<=op/\op<=105)\/(121<=op/\op<=123)\/op=167\/op=172\/op=173:=by
 unfold Num.many at h
 split at h
 ·assumption
 ·split at h<;>omega
theorem many_two(op:Int)(h:Num.many op=2):(70<=op/\op<=79)\/(81<=op/\op<=90)\/(106<=op/\op<=120)\/(124<=op/\op<=138):=by
 unfold Num.many at h
 split at h
 ·omega
 ·
  split at h
  ·assumption
  ·omega
theorem many_cases(op:Int):Num.many op=1\/Num.many op=2\/Num.many op=0:=by
 unfold Num.many
 repeat' split
 all_goals omega
theorem many_else(op:Int)(h1:¬Num.many op=1)(h2:¬Num.many op=2):Num.many op=0:=by
 rcases many_cases op with h|h|h
 ·exact absurd h h1
 ·exact absurd h h2
 ·exact h
theorem many_zero(op:Int)(h:Num.many op=0):¬(op=69\/op=80\/(103<=op/\op<=105)\/(121<=op/\op<=123)\/op=167\/op=172\/op=173)/\¬((70<=op/\op<=79)\/(81<=op/\op<=90)\/(106<=op/\op<=120)\/(124<=op/\op<=138)):=by
 unfold Num.many at h
 split at h
 ·omega
 ·
  split at h
  ·omega
  ·constructor<;>assumption
theorem Args_any(op:Int)(w:World)(h0: -9223372036854775808<=op)(h1:op<=9223372036854775807):
  Calls prog 296 #[.int .i64 op] w λe w'=>e=.returned (argsR op)/\w=w':=by
 have HN:=hid (λw=>narrow_any op w h0 h1)
 by_cases c1:Num.many op=1
 ·
  have hr:argsR op=.tuple #[.int .i64 1,.bool true]:=by simp[argsR,c1]
  rw[hr]
  have hs:(Num.nrw op).2≠0/\((Num.nrw op).1=69\/(Num.nrw op).1=103\/(Num.nrw op).1=104\/(Num.nrw op).1=105\/(Num.nrw op).1=167\/(Num.nrw op).1=172\/(Num.nrw op).1=173):=by
   have hm:=many_one op c1
   unfold Num.nrw
   repeat' split
   all_goals omega
  obtain⟨s,hs1⟩:∃s,s=(Num.nrw op).1:=⟨_,rfl⟩
  obtain⟨v,hs2⟩:∃v,v=(Num.nrw op).2:=⟨_,rfl⟩
  rw[<-hs1,<-hs2]at hs HN
  obtain⟨hv,hs⟩:=hs
  have hv':(v==0)=false:=by simp[hv]
  clear hr c1 hs1 hs2 h0 h1
  rcases hs with rfl|rfl|rfl|rfl|rfl|rfl|rfl
  all_goals
   go_enter func296,ntmps296
   go_wp2_with(go_at_call 303;refine(HN.out _).mono ?_;rintro e w' ⟨rfl,rfl⟩)
   go_ret2
   exact⟨rfl,rfl⟩
 by_cases c2:Num.many op=2
 ·
  have hr:argsR op=.tuple #[.int .i64 2,.bool true]:=by simp[argsR,c2]
  rw[hr]
  have hs:(Num.nrw op).2≠0/\¬((Num.nrw op).1=69\/(Num.nrw op).1=103\/(Num.nrw op).1=104\/(Num.nrw op).1=105\/(Num.nrw op).1=167\/(Num.nrw op).1=172\/(Num.nrw op).1=173):=by
   have hm:=many_two op c2
   unfold Num.nrw
   repeat' split
   all_goals omega
  obtain⟨s,hs1⟩:∃s,s=(Num.nrw op).1:=⟨_,rfl⟩
  obtain⟨v,hs2⟩:∃v,v=(Num.nrw op).2:=⟨_,rfl⟩
  rw[<-hs1,<-hs2]at hs HN
  obtain⟨hv,hs⟩:=hs
  have hv':(v==0)=false:=by simp[hv]
  have t1:(s==69)=false:=by simp;omega
  have t2:(s==103)=false:=by simp;omega
  have t3:(s==104)=false:=by simp;omega
  have t4:(s==105)=false:=by simp;omega
  have t5:(s==167)=false:=by simp;omega
  have t6:(s==172)=false:=by simp;omega
  have t7:(s==173)=false:=by simp;omega
  clear hr c1 c2 hs1 hs2 h0 h1 hs
  go_enter func296,ntmps296
  go_wp2_with(go_at_call 303;refine(HN.out _).mono ?_;rintro e w' ⟨rfl,rfl⟩)
  go_ret2
  exact⟨rfl,rfl⟩
 have c0:=many_else op c1 c2
 have hr:argsR op=.tuple #[.int .i64 0,.bool false]:=by simp[argsR,c0]
 rw[hr]
 have hs:Num.nrw op=(0,0):=by
  have hm:=many_zero op c0
  unfold Num.nrw
  rw[if_neg (by omega),if_neg (by omega),if_neg (by omega),if_neg (by omega)]
 rw[hs]at HN
 clear hr c1 c2 c0 hs h0 h1
 go_enter func296,ntmps296
 go_wp2_with(go_at_call 303;refine(HN.out _).mono ?_;rintro e w' ⟨rfl,rfl⟩)
 go_ret2
 exact⟨rfl,rfl⟩
theorem run_same_code{P:Program}{tI tC:TypeId}{ms:Array (String×TypeId)}{inf:TypeInfo}{k:IntKind}(w:World)(x y:Int)
  (h1:P.underlying tI=some (.interface ms)) (h2:P.underlying tC=some (.int k)) (h3:P.info? tC=some inf) (h4:inf.comparable=true):
  (binOp .eql tI (.iface tC (.int k x)) (.iface tC (.int k y))).run P w=.ok (.bool (x==y)) w:=by
 have h:∀d,(Op.equalIn (d+2) tI (.iface tC (.int k x)) (.iface tC (.int k y))).run P w=.ok (x==y) w:=λd=>by
  simp[Op.equalIn,run_underlying h1,run_underlying h2,typeInfo,h3,h4]
 simp only[binOp]
 simp[Op.equal,Op.maxDepth,h 9998]
theorem code_info:(prog.info? 40).map (λi=>i.comparable)=some true:=by kernel_rfl
theorem run_eql_code(w:World)(x y:Int):(binOp .eql 37 (.iface 40 (.int .i64 x)) (.iface 40 (.int .i64 y))).run prog w=.ok (.bool (x==y)) w:=by
 obtain⟨i,hi,hc⟩:=Option.map_eq_some_iff.1 code_info
 exact run_same_code w x y underlying37 underlying40 hi hc
end Go.Proofs.YteoijlfipmaoeaaGreatDoor
namespace Go.Proofs.YteoijlfipmaoeaaGreatDoor
open Go.ChangeShapes Go.WideShapes Go.ChangeAt Go.RowKit
open Go.Proofs.Tryz
theorem own_knob:ownKnob prog.godebug=none:=by kernel_rfl
theorem laid_out:laidOutB prog=true:=by kernel_rfl
theorem ints_of_row{k:IntKind}{W:World}{x:Addr}{len:Nat}{zs:List Int}(hl:len<=zs.length)
  (hcell:∀i,i<zs.length->W.cell? (x.add i)=some (.int k (zs.getD i 0))):Sl W W.heap.size (some x) ((zs.take len).map (Value.int k)):=λhne=>by
 have hlen:0<len:=by
  rcases jh len with h|h
  ·subst h;simp at hne
  ·exact h
 obtain⟨b,off,spot⟩:=x
 have h0:=hcell 0 (by omega)
 have hspot:spot=none:=by simpa[Addr.add]using World.cell?_spot h0
 subst hspot
 have hlt:=zn _ _ h0
 simp[Addr.add]at hlt
 refine⟨b,off,rfl,hlt,λi hi=>?_⟩
 simp at hi
 have hi2:i<zs.length:=by omega
 have hc:=hcell i hi2
 have e:(⟨b,off,none⟩:Addr).add i=⟨b,off+i,none⟩:=by unfold Addr.add;split<;>simp_all
 rw[e]at hc
 rw[hc]
 simp[hi,hi2]
theorem bytes_of_row{W:World}{x:Addr}{len:Nat}{zs:List Int}(hl:len<=zs.length)
  (hcell:∀i,i<zs.length->W.cell? (x.add i)=some (.int .u8 (zs.getD i 0))) (hwz:∀n∈zs,(Lit.int .u8 n).wf=true):
  ∃bs:List UInt8,bs.length=len/\Sl W W.heap.size (some x) (u8s bs):=by
 refine⟨(zs.take len).map λn=>UInt8.ofNat n.toNat,by simp;omega,?_⟩
 have h:=ints_of_row (k:=.u8) hl hcell
 have e:u8s ((zs.take len).map λn=>UInt8.ofNat n.toNat)=(zs.take len).map (Value.int .u8):=by
  unfold u8s
  rw[List.map_map]
  refine List.map_congr_left λn hn=>?_
  have hb:=bounds_u8 (hwz n (List.mem_of_mem_take hn))
  simp[Function.comp]
  omega
 rw[e]
 exact h
end Go.Proofs.YteoijlfipmaoeaaGreatDoor
namespace Go.Proofs.YteoijlfipmaoeaaGreatDoor
open Go.RowKit
structure Own(B:Nat)(w0 w:World)(e:TypeId)(v:Value)(xs:List Value):Prop where
 row:w.ownsRow B e 1 v xs.length xs
 below:Below B w0 w
 le:B<=w.heap.size
def Elem(P:Program)(e:TypeId)(bytes:Nat):Prop:=∃i z,P.info? e=some i/\i.zero=some z/\i.size=1/\i.bytes=bytes/\z.cells.size=1
theorem Elem.mk_{P:Program}{e:TypeId}{z:Value}{bytes:Nat}(h:(P.info? e).map (λi=>(i.zero,i.size,i.bytes))=some (some z,1,bytes))(hz:z.cells.size=1):Elem P e bytes:=by
 obtain⟨i,h1,h2,h3,h4⟩:=info_parts h
 exact⟨i,z,h1,h2,h3,h4,hz⟩
section
variable{B:Nat}{w0 w w':World}{e:TypeId}{v:Value}{xs:List Value}
theorem Own.nil_(w0 w:World)(e:TypeId)(hb:Below B w0 w)(hB:B<=w.heap.size):Own B w0 w e (.slice none 0 0) []:=
 ⟨World.ownsRow_nil _ _ _ _,hb,hB⟩
theorem Own.drewN(h:Own B w0 w e v xs)(n:Nat):Own B w0 (w.drewN n) e v xs:=⟨h.row,⟨h.below.os,h.below.tape,h.below.output,h.below.size,h.below.block⟩,h.le⟩
theorem Own.form(h:Own B w0 w e v xs):∃A c,v=.slice A xs.length c/\xs.length<=c/\c<=maxLen/\Sl w w.heap.size A xs:=by
 rcases h.row.2 with⟨rfl,hn⟩|⟨g,cap,cur,rfl,hg,hcur,hle,hm,hsz,htk⟩
 ·
  rw[hn]
  exact⟨none,0,rfl,zq _,qw _,λhne=>absurd (zc hn) hne⟩
 ·
  refine⟨_,cap,rfl,hle,hm,λhne=>⟨g,0,rfl,?_,λi hi=>?_⟩⟩
  ·
   rcases qm g w.heap.size with h1|h1
   ·exact h1
   ·rw[qi h1]at hcur;cases hcur
  ·
   rw[qz]
   exact h.row.cellAt i (by omega)
theorem Own.bytes{bs:List UInt8}(h:Own B w0 w e v (u8s bs)):∃A c,v=.slice A bs.length c/\bs.length<=c/\c<=maxLen/\Sl w w.heap.size A (u8s bs):=by
 simpa using h.form
theorem Own.lit(w:World)(cs:Array Value)(e:TypeId)(hm:cs.size<=maxLen):Own w.heap.size w (w.alloc (.cells cs e)) e (.slice (some ⟨w.heap.size,0,none⟩) cs.size cs.size) cs.toList:=by
 refine⟨?_,(zx _ _).alloc (zq _) _,by simp⟩
 have:=World.ownsRow_lit (base:=w.heap.size) (e:=e) (size:=1) w cs cs.size (zq _) hm (by simp)
 simpa using this
end
section
variable{P:Program}
theorem run_append_nothing(w:World)(base:Nat)(t ty e:TypeId)(i:TypeInfo)(size:Nat)(ht:P.underlying t=some (.slice e))(hi:P.info? e=some i)
  (v:Value) (n:Nat) (xs:List Value) (hown:w.ownsRow base e size v n xs) (c:Nat):(Builtin.append_ #[t,t] ty #[v,.slice none 0 c]).run P w=.ok v w:=by
 rcases hown.2 with⟨rfl,rfl⟩|⟨g,cap,cur,rfl,_,_,hnc,_⟩
 ·simp[Builtin.append_,run_underlying ht,sizeOf,typeInfo,hi,Builtin.lenOf,Builtin.firstCells]
 ·simp[Builtin.append_,run_underlying ht,sizeOf,typeInfo,hi,Builtin.lenOf,Builtin.firstCells,hnc,storeCells]
theorem wpList_push{ops:Array Oper}{rest:List Oper}{o:Oper}{a:Act}{Q:Exit->Act->World->Prop}(hgd:o.guard=none)(s x:Operand)(t:TypeId)
  (ho:o.op=.call {callee:=.builtin .append,args:=#[s,x],argTypes:=#[t,t]}) (e:TypeId) (bytes:Nat) (ht:P.underlying t=some (.slice e)) (hE:Elem P e bytes) (h64:bytes<=64)
  (B:Nat) (w0 w:World) (v:Value) (xs:List Value) (u:Value) (c:Nat) (hs:a.eval s=v) (h:Own B w0 w e v xs) (hx:a.eval x=.slice (some ⟨w.heap.size,0,none⟩) 1 c)
  (hu:u.oneCell'=true) (hlen:xs.length<1000000000000)
  (k:∀v' w',Own B w0 w' e v' (xs++[u])->wpList P ops Q rest (a.put o.dst v') w'):wpList P ops Q (o::rest) a (w.alloc (.cells #[u] e)):=by
 obtain⟨i,z,hi,hz,h1,hby,hzs⟩:=hE
 refine wpList_append_own _ hgd s x t ho B e i z 1 bytes ht hi hz h1 hby hzs (by decide) v xs.length xs hs (h.row.alloc _) ⟨w.heap.size,0,none⟩ 1 c [u] hx rfl ?_ ?_ ?_ ?_ ?_ ?_
 ·exact cell_one_new _ _ _
 ·
  intro y hy
  simp at hy
  subst hy
  exact hu
 ·simp only[maxLen];omega
 ·
  have:(xs.length+1) * bytes<=(xs.length+1) * 64:=Nat.mul_le_mul_left _ h64
  omega
 ·have:=h.le;simp;omega
 ·
  intro v' w' hown hg _
  refine k v' w' ⟨by simpa using hown,?_,?_⟩
  ·
   refine(h.below.alloc h.le _).grown hg (by have:=h.le;simp;omega) (λg hg'=>?_)
   exact(h.row.lt g hg').1
  ·have:=hg.size;have:=h.le;simp at *;omega
end
end Go.Proofs.YteoijlfipmaoeaaGreatDoor
namespace Go.Proofs.YteoijlfipmaoeaaGreatDoor
open Go.RowKit Go.Lib
def Utf.char(c:Nat):Bool:=decide (c<=1114111)&&(decide (c<55296) || decide (57343<c))
def Utf.enc(c:Nat):List UInt8:=
 if c<128 then[UInt8.ofNat c]
 else if c<2048 then[UInt8.ofNat (192+c / 64),UInt8.ofNat (128+c%64)]
 else if c<65536 then[UInt8.ofNat (224+c / 4096),UInt8.ofNat (128+c / 64%64),UInt8.ofNat (128+c%64)]
 else[UInt8.ofNat (240+c / 262144),UInt8.ofNat (128+c / 4096%64),UInt8.ofNat (128+c / 64%64),UInt8.ofNat (128+c%64)]
theorem Utf.enc_len(c:Nat):1<=(Utf.enc c).length/\(Utf.enc c).length<=4:=by
 unfold Utf.enc
 repeat' split
 all_goals simp
end Go.Proofs.YteoijlfipmaoeaaGreatDoor
namespace Go.Proofs.YteoijlfipmaoeaaGreatDoor
open Go.RowKit
section
variable{P:Program}{ops:Array Oper}{Q:Exit->Act->World->Prop}{md:Region.Mode}{S:World->Prop}
theorem region_take(i:Nat)(d:Option Nat){oi:Oper}{v:Value}{fuel:Nat}{listed:Array Bool}{a:Act}{w:World}(hi:ops[i]? =some oi)(hd:oi.dst=d)
  (hs:Region.noSelect ops=true) (hf:Region.free md ops listed i=true) (hr:(Region.ready md ops listed).contains i=true)
  (hQ:∀c a w,Q (.panic c) (a.put d v) w->Q (.panic c) a w) (hw:Region.wanted oi (yielded ops a.tmps)=true) (hy:∀w,S w->(execOp a.eval oi).run P w=.ok (.value v) w) (hS:S w)
  (h:wpAnyH P md ops Q S fuel (listed.setIfInBounds i true) (a.put d v) w):wpAnyH P md ops Q S (fuel+1) listed a w:=by
 subst hd
 exact wpAnyH_take hi hs hf hr hQ (Or.inl ⟨hw,hy⟩) hS h
theorem rtk(i d:Nat){oi:Oper}{v:Value}{fuel:Nat}{listed:Array Bool}{a b:Act}{w:World}
  (h:wpAnyH P md ops Q S fuel (listed.setIfInBounds i true) b w)
  (hi:ops[i]? =some oi:=by rfl) (hd:oi.dst=some d:=by rfl)
  (hs:Region.noSelect ops=true:=by kernel_rfl) (hf:Region.free md ops listed i=true:=by kernel_rfl) (hr:(Region.ready md ops listed).contains i=true:=by kernel_rfl)
  (hw:Region.wanted oi (yielded ops a.tmps)=true:=by rfl)
  (hy:∀w,S w->(execOp a.eval oi).run P w=.ok (.value v) w:=by(intro w hSw;(try dsimp only at hSw);go_simp;try with_reducible rfl))
  (hb:a.put (some d) v=b:=by((try simp only[Act.put,List.setIfInBounds_toArray,List.set_cons_zero,List.set_cons_succ]);try rfl))
  (hQ:∀c a w,Q (.panic c) (a.put (some d) v) w->Q (.panic c) a w:=by exact λ_ _ _ h=>h)
  (hS:S w:=by assumption):wpAnyH P md ops Q S (fuel+1) listed a w:=by
 subst hb
 exact region_take i (some d) hi hd hs hf hr hQ hw hy hS h
theorem rcl(i:Nat){fuel:Nat}{listed:Array Bool}{a:Act}{w:World}{o:Oper}
  (h:∀K':Act->World->Prop,Shut (∀a w,S w->(S w->wpAnyH P md ops Q S fuel (listed.setIfInBounds i true) a w)->K' a w)->if Region.wanted o (yielded ops a.tmps)=true then Oper.wp P o a w K' Q else K' (a.put o.dst undef) w)
  (ho:ops[i]? =some o:=by rfl) (hr:Region.ready md ops listed=[i]:=by kernel_rfl):wpAnyH P md ops Q S (fuel+1) listed a w:=
 wpAnyH_ready (rs:=[i]) hr (by simp) (AllReadyH.cons ho h AllReadyH.nil)
theorem rbk{fuel:Nat}{listed:Array Bool}{K':Act->World->Prop}{a b:Act}{w:World}(hK:Shut (∀a w,S w->(S w->wpAnyH P md ops Q S fuel listed a w)->K' a w))(hS:S w)
  (h:S w->wpAnyH P md ops Q S fuel listed b w) (hb:a=b:=by((try simp only[Act.put,List.setIfInBounds_toArray,List.set_cons_zero,List.set_cons_succ]);try rfl)):K' a w:=by
 subst hb
 exact hK.out _ _ hS h
end
section
variable{P:Program}{ops:Array Oper}{Q:Exit->Act->World->Prop}{md:Region.Mode}{S:World->Prop}
theorem wpAnyH_inv(I:Array Bool->Act->World->Prop)(hS:∀l a w,I l a w->S w)
  (step:∀l a w,I l a w->wpAnyH P md ops Q S (l.toList.count false) l a w\/(Region.ready md ops l≠[]/\∀i,i∈Region.ready md ops l->wpOp P ops Q i (λa' w'=>I (l.setIfInBounds i true) a' w') a w)):
  ∀(fuel:Nat) (l:Array Bool) (a:Act) (w:World),l.toList.count false=fuel->I l a w->wpAnyH P md ops Q S fuel l a w:=by
 have hin:∀(l:Array Bool) i,i∈Region.ready md ops l->l.toList[i]? =some false:=λl i hi=>by
  have h:=(mem_ready.1 hi).1
  rw[Array.getElem?_toList]
  rcases qm i l.size with h1|h1
  ·
   simp only[kv,h1,dif_pos]at h
   rw[Array.getElem?_eq_getElem h1]
   exact congrArg some h
  ·
   simp only[kv,Nat.not_lt.2 h1,dif_neg,not_false_eq_true]at h
   cases h
 intro fuel
 induction fuel with
 |zero=>
  intro l a w hc hI
  rcases step l a w hI with h|⟨hne,-⟩
  ·rwa[hc]at h
  ·
   refine absurd (List.eq_nil_iff_forall_not_mem.2 λi hi=>?_) hne
   have h:=zu (hin l i hi)
   have:=List.count_pos_iff.2 h
   omega
 |succ fuel ih=>
  intro l a w hc hI
  rcases step l a w hI with h|⟨hne,hst⟩
  ·rwa[hc]at h
  refine⟨λhr=>absurd hr hne,λi hi=>?_⟩
  refine wpOp_mono (λa' w' h=>⟨hS _ _ _ h,ih _ _ _ ?_ h⟩) (hst i hi)
  have h:=hin l i hi
  obtain⟨hlt,he⟩:=List.getElem?_eq_some_iff.1 h
  have hpos:=List.count_pos_iff.2 (zu h)
  have hset:(l.setIfInBounds i true).toList=l.toList.set i true:=by simp
  rw[hset,List.count_set hlt,he]
  simp at hc hpos⊢
  omega
end
def aft(ops:Array Oper)(i:Nat):List Edge:=match ops[i]? with
 |some o=>o.after.toList
 |none=>[]
structure Bs(n:Nat)(d:Nat->Nat)(a0:Act)(w0:World)(a:Act)(w:World):Prop where
 size:a.tmps.size=a0.tmps.size
 defers:a.defers=a0.defers
 same:∀j,(∀i,i<n->d i≠j)->a.eval (.tmp j)=a0.eval (.tmp j)
 below:Below w0.heap.size w0 w
theorem eval_put(a:Act)(d j:Nat)(v:Value):(a.put (some d) v).eval (.tmp j)=if j=d/\d<a.tmps.size then v else a.eval (.tmp j):=by
 simp only[Act.put,Act.eval,Array.getD_eq_getD_getElem?,Array.getElem?_setIfInBounds]
 by_cases e:d=j
 ·
  subst e
  by_cases h:d<a.tmps.size
  ·simp[h]
  ·simp[h]
 ·
  have e':¬j=d:=λh=>e h.symm
  simp[e,e']
theorem size_put(a:Act)(d:Nat)(v:Value):(a.put (some d) v).tmps.size=a.tmps.size:=by simp[Act.put]
theorem defers_put(a:Act)(d:Option Nat)(v:Value):(a.put d v).defers=a.defers:=by cases d<;>rfl
section
variable{P:Program}{ops:Array Oper}{Q:Exit->Act->World->Prop}
def listN(n N:Nat):Array Bool:=(List.replicate n true++List.replicate (N-n) false).toArray
theorem region_vals{id:Nat}(n N:Nat)(V:Nat->Value->World->Prop)(d:Nat->Nat)(a0:Act)(w0:World)(hm:P.follows .mixedOrders=true)(hN:ops.size=N)(hn:n<N)
  (hac:((List.range N).all λi=>(aft ops i).all λe=>decide (e.on<i))=true)
  (hcl:((List.range n).all λk=>(List.range (n+1)).any λk'=>decide (k<k')&&(aft ops k').any λe=>Region.binds .any e&&e.on==k)=true)
  (hex:((List.range N).all λk=>decide (k<=n) || (aft ops k).any λe=>Region.binds .any e&&e.on==n)=true)
  (hinj:((List.range n).all λi=>decide (d i<a0.tmps.size)&&(List.range n).all λj=>i==j || !(d i==d j))=true)
  (mono:∀i v w w',V i v w->Below w.heap.size w w'->V i v w')
  (step:∀i,i<n->∀a w,Bs n d a0 w0.drew a w->(∀e∈aft ops i,Region.binds .any e=true->V e.on (a.eval (.tmp (d e.on))) w)->wpOp P ops Q i (λa' w'=>∃v,a'=a.put (some (d i)) v/\Below w.heap.size w w'/\V i v w') a w)
  (fin:∀a w,Bs n d a0 w0.drew a w->(∀k,k<n->V k (a.eval (.tmp (d k))) w)->wpAnyH P .any ops Q (λ_=>True) (N-n) (listN n N) a w):
  (Code.region id ops true).wp P Q a0 w0:=by
 have hac':∀i,i<N->∀e∈aft ops i,e.on<i:=λi hi e he=>by
  have:=List.all_eq_true.1 (List.all_eq_true.1 hac i (List.mem_range.2 hi)) e he
  simpa using this
 have hin:∀i j,i<n->j<n->d i=d j->i=j:=λi j hi hj e=>by
  have h1:=List.all_eq_true.1 hinj i (List.mem_range.2 hi)
  rw[zp]at h1
  have:=List.all_eq_true.1 h1.2 j (List.mem_range.2 hj)
  simp[e]at this
  exact this
 have hdl:∀i,i<n->d i<a0.tmps.size:=λi hi=>by
  have h1:=List.all_eq_true.1 hinj i (List.mem_range.2 hi)
  rw[zp]at h1
  simpa using h1.1
 have haft:∀{i:Nat} {o:Oper},ops[i]? =some o->∀e,e∈o.after↔e∈aft ops i:=λ{i o} ho e=>by simp[aft,ho]
 refine wp_region_held_drew (S:=λ_=>True) hm trivial (λ_=>?_)
 refine wpAnyH_inv (λl a w=>l.size=N/\(∀k,n<=k->k<N->l.getD k true=false)/\Bs n d a0 w0.drew a w/\(∀k,k<n->l.getD k true=true->∀e∈aft ops k,Region.binds .any e=true->l.getD e.on true=true)/\
  ∀k,k<n->l.getD k true=true->V k (a.eval (.tmp (d k))) w) (λ_ _ _ _=>trivial) ?_ _ _ _ _ ?_ ?_
 ·
  intro l a w ⟨hl,hln,hB,hcd,hV⟩
  have hgd:∀k,k<N->l.getD k false=l.getD k true:=λk hk=>by simp[kv,hl,hk]
  have hgt:∀k,N<=k->l.getD k true=true:=λk hk=>by simp[kv,hl,Nat.not_lt.2 hk]
  by_cases hfull:∀k,k<n->l.getD k true=true
  ·
   refine .inl ?_
   have hlN:l=listN n N:=by
    apply Array.ext
    ·simp[listN,hl];omega
    ·
     intro i h1 h2
     have h3:l.getD i true=l[i]:=by simp[kv,h1]
     rw[<-h3]
     by_cases e:i<n
     ·
      rw[hfull i e]
      simp[listN,List.getElem_append,e]
     ·
      rw[hln i (by omega) (by omega)]
      simp[listN,List.getElem_append,e]
   have hc:l.toList.count false=N-n:=by
    rw[hlN]
    simp[listN,List.count_append,List.count_replicate]
   rw[hc,hlN]
   exact fin a w hB λk hk=>hV k hk (hfull k hk)
  ·
   refine .inr ⟨λhr=>hfull ?_,λi hi=>?_⟩
   ·
    intro k
    induction k using Nat.strongRecOn with
    |ind k ih=>
     intro hk
     rcases h:l.getD k true with _|_
     ·
      exfalso
      have hok:∃o,ops[k]? =some o:=⟨ops[k]'(by omega),Array.getElem?_eq_getElem _⟩
      obtain⟨o,ho⟩:=hok
      have:k∈Region.ready .any ops l:=mem_ready.2 ⟨h,o,ho,λe he _=>by
       have he':=hac' k (by omega) e ((haft ho e).1 he)
       rw[hgd _ (by omega)]
       exact ih e.on he' (by omega)⟩
      rw[hr]at this
      cases this
     ·rfl
   ·
    obtain⟨hun,o,ho,hdep⟩:=mem_ready.1 hi
    have hilt:i<N:=by
     rw[<-hN]
     exact(Array.getElem?_eq_some_iff.1 ho).1
    have hdep':∀e∈aft ops i,Region.binds .any e=true->l.getD e.on true=true:=λe he hb=>by
     have h2:=hdep e ((haft ho e).2 he) hb
     have he':=hac' i hilt e he
     rwa[hgd e.on (by omega)]at h2
    rcases qm i n with hi'|hi'
    ·
     have hs:=step i hi' a w hB λe he hb=>hV e.on (Nat.lt_trans (hac' i hilt e he) hi') (hdep' e he hb)
     refine wpOp_mono (λa' w' h=>?_) hs
     obtain⟨v,rfl,hbel,hv⟩:=h
     have hda:d i<a.tmps.size:=by rw[hB.size];exact hdl i hi'
     have hset:∀k,l.getD k true=true->(l.setIfInBounds i true).getD k true=true:=λk hk=>by
      by_cases e:k=i
      ·
       subst e
       simp[kv]
      ·rw[getD_set_ne true (λh=>e h.symm)];exact hk
     have hone:∀k,k≠i->(l.setIfInBounds i true).getD k true=l.getD k true:=λk e=>getD_set_ne true (λh=>e h.symm)
     refine⟨by simp[hl],λk h1 h2=>by rw[hone k (by omega)];exact hln k h1 h2,⟨by rw[size_put,hB.size],by rw[defers_put,hB.defers],λj hj=>?_,hB.below.trans (hbel.mono hB.below.size)⟩,λk hk hlk e he hb=>?_,λk hk hlk=>?_⟩
     ·
      rw[eval_put,if_neg (λh=>hj i hi' h.1.symm)]
      exact hB.same j hj
     ·
      by_cases ek:k=i
      ·
       subst ek
       exact hset _ (hdep' e he hb)
      ·
       rw[hone k ek]at hlk
       exact hset _ (hcd k hk hlk e he hb)
     ·
      by_cases e:k=i
      ·
       subst e
       rw[eval_put,if_pos ⟨rfl,hda⟩]
       exact hv
      ·
       rw[eval_put,if_neg (λh=>e (hin k i hk hi' h.1))]
       rw[hone k e]at hlk
       exact mono k _ w w' (hV k hk hlk) hbel
    ·
     exfalso
     rcases qm n i with hlt|hle
     ·
      have h1:=List.all_eq_true.1 hex i (List.mem_range.2 hilt)
      rw[jc]at h1
      rcases h1 with h1|h1
      ·simp at h1;omega
      ·
       obtain⟨x,hx,hx2⟩:=List.any_eq_true.1 h1
       simp only[zp,beq_iff_eq]at hx2
       have h2:=hdep' x hx hx2.1
       rw[hx2.2,hln n (zq _) hn]at h2
       cases h2
     ·
      obtain rfl:i=n:=by omega
      refine hfull ?_
      have key:∀q k,k<i->i-k<=q->l.getD k true=true:=by
       intro q
       induction q with
       |zero=>intro k hk hq;omega
       |succ q ih=>
        intro k hk hq
        have h1:=List.all_eq_true.1 hcl k (List.mem_range.2 hk)
        obtain⟨k',hk',hx⟩:=List.any_eq_true.1 h1
        rw[zp]at hx
        obtain⟨x,hx1,hx2⟩:=List.any_eq_true.1 hx.2
        simp only[zp,beq_iff_eq]at hx2
        have hkk:k<k':=by simpa using hx.1
        have hk'n:k'<i+1:=List.mem_range.1 hk'
        have hx3:=hx2.2
        subst hx3
        by_cases e:k'=i
        ·
         subst e
         exact hdep' x hx1 hx2.1
        ·exact hcd k' (by omega) (ih k' (by omega) (by omega)) x hx1 hx2.1
      exact λk hk=>key i k hk (by omega)
 ·
  rw[hN]
  simp
 ·
  refine⟨by simp[hN],λk _ hk=>by simp[kv,hN,hk],⟨rfl,rfl,λ_ _=>rfl,zx _ _⟩,λk hk hlk=>?_,λk hk hlk=>?_⟩<;>
  ·
   have h3:k<N:=by omega
   simp[kv,hN,h3]at hlk
theorem op_val{o:Oper}{a:Act}{w:World}{K:Act->World->Prop}(v:Value)(h:(execOp a.eval o).run P w=.ok (.value v) w)(hK:K (a.put o.dst v) w):Oper.wp P o a w K Q:=by
 unfold Oper.wp
 rw[h]
 exact hK
theorem op_plain{i:Nat}{o:Oper}{a:Act}{w:World}{K:Act->World->Prop}(ho:ops[i]? =some o)(hg:o.guard=none)(h:Oper.wp P o a w K Q):wpOp P ops Q i K a w:=by
 unfold wpOp
 rw[ho]
 have hw:Region.wanted o (yielded ops a.tmps)=true:=by simp[Region.wanted,hg]
 simp only[hw,if_true]
 exact .inl h
theorem ready_one{i fuel:Nat}{o:Oper}{listed:Array Bool}{a:Act}{w:World}(hr:Region.ready .any ops listed=[i])(ho:ops[i]? =some o)(hg:o.guard=none)
  (h:Oper.wp P o a w (λa' w'=>wpAnyH P .any ops Q (λ_=>True) fuel (listed.setIfInBounds i true) a' w') Q):wpAnyH P .any ops Q (λ_=>True) (fuel+1) listed a w:=by
 refine⟨λh0=>absurd (hr.symm.trans h0) (by simp),λj hj=>?_⟩
 rw[hr]at hj
 simp at hj
 subst hj
 exact wpOp_mono (λ_ _ h=>⟨trivial,h⟩) (op_plain ho hg h)
theorem ready_none{fuel:Nat}{listed:Array Bool}{a:Act}{w:World}(hr:Region.ready .any ops listed=[])(h:Q .normal a w):wpAnyH P .any ops Q (λ_=>True) fuel listed a w:=by
 cases fuel with
 |zero=>exact⟨hr,h⟩
 |succ n=>exact⟨λ_=>h,λj hj=>by rw[hr]at hj;simp at hj⟩
end
section
variable{P:Program}{ops:Array Oper}{Q:Exit->Act->World->Prop}{Vi:Value->World->Prop}{a:Act}{w:World}
theorem pv{i di:Nat}{o:Oper}{v:Value}(ho:ops[i]? =some o:=by rfl)(hg:o.guard=none:=by rfl)(hd:o.dst=some di:=by rfl)(hv:Vi v w:=by exact rfl)(h:(execOp a.eval o).run P w=.ok (.value v) w:=by go_simp):
  wpOp P ops Q i (λa' w'=>∃v,a'=a.put (some di) v/\Below w.heap.size w w'/\Vi v w') a w:=op_plain ho hg (op_val v h ⟨v,by rw[hd],zx _ _,hv⟩)
end
end Go.Proofs.YteoijlfipmaoeaaGreatDoor
