import Derived.Test.YteoijlfipmaoeaaGreatDoorPJ22
import Derived.Test.YteoijlfipmaoeaaGreatDoorPJ17
set_option linter.unusedVariables false
set_option linter.unusedSimpArgs false
set_option maxRecDepth 100000
set_option maxHeartbeats 16000000
namespace Go.Proofs.YteoijlfipmaoeaaGreatDoor
open Lib (hid)
open Go.RowKit Trx
open Go.Proofs.Tryz
inductive GIn:{β:Type}->Nat->TypeId->Nat->Nat->(β->List Value)->(β->Value)->Prop
 |int:GIn 31 3 1 8 (λx:Int=>([.int .i64 x]:List Value)) (λx:Int=>(.int .i64 x:Value))
 |byte:GIn 242 5 1 1 (λx:UInt8=>([.int .u8 (x.toNat:Int)]:List Value)) (λx:UInt8=>(.int .u8 (x.toNat:Int):Value))
 |Lm:GIn 137 75 3 24 (λx:Lm=>([.int .i64 x.mn,.int .i64 x.mx,.bool x.hs]:List Value)) (λx:Lm=>(.agg #[.int .i64 x.mn,.int .i64 x.mx,.bool x.hs]:Value))
 |Ty:GIn 196 73 2 48 (λx:Ty=>([.slice x.p.A x.p.zs.length x.p.c,.slice x.r.A x.r.zs.length x.r.c]:List Value)) (λx:Ty=>(.agg #[.slice x.p.A x.p.zs.length x.p.c,.slice x.r.A x.r.zs.length x.r.c]:Value))
 |Im:GIn 200 77 8 80 (λx:Im=>([.string x.md,.string x.nm,.int .i64 x.kd,.int .i64 x.ty,.bool x.mu,.int .i64 x.lm.mn,.int .i64 x.lm.mx,.bool x.lm.hs]:List Value)) (λx:Im=>(.agg #[.string x.md,.string x.nm,.int .i64 x.kd,.int .i64 x.ty,.bool x.mu,.int .i64 x.lm.mn,.int .i64 x.lm.mx,.bool x.lm.hs]:Value))
 |Gl:GIn 205 61 11 136 (λx:Gl=>([.int .i64 x.ty,.bool x.mu,.int .i64 x.i.n.op,.int .i64 x.i.n.a,.int .i64 x.i.n.b,.int .u64 x.i.n.v,.int .i64 x.i.n.t,.slice x.i.p.AL x.i.n.L.length x.i.p.cL,.slice x.i.p.Ab (len x.i.n.body) x.i.p.cb,.slice x.i.p.Ae (len x.i.n.els) x.i.p.ce,.bool x.i.n.he]:List Value)) (λx:Gl=>(.agg #[.int .i64 x.ty,.bool x.mu,.int .i64 x.i.n.op,.int .i64 x.i.n.a,.int .i64 x.i.n.b,.int .u64 x.i.n.v,.int .i64 x.i.n.t,.slice x.i.p.AL x.i.n.L.length x.i.p.cL,.slice x.i.p.Ab (len x.i.n.body) x.i.p.cb,.slice x.i.p.Ae (len x.i.n.els) x.i.p.ce,.bool x.i.n.he]:Value))
 |Ex:GIn 208 79 3 32 (λx:Ex=>([.string x.nm,.int .i64 x.kd,.int .i64 x.ix]:List Value)) (λx:Ex=>(.agg #[.string x.nm,.int .i64 x.kd,.int .i64 x.ix]:Value))
 |El:GIn 210 63 10 144 (λx:El=>([.int .i64 x.i.n.op,.int .i64 x.i.n.a,.int .i64 x.i.n.b,.int .u64 x.i.n.v,.int .i64 x.i.n.t,.slice x.i.p.AL x.i.n.L.length x.i.p.cL,.slice x.i.p.Ab (len x.i.n.body) x.i.p.cb,.slice x.i.p.Ae (len x.i.n.els) x.i.p.ce,.bool x.i.n.he,.slice x.fs.A x.fs.zs.length x.fs.c]:List Value)) (λx:El=>(.agg #[.int .i64 x.i.n.op,.int .i64 x.i.n.a,.int .i64 x.i.n.b,.int .u64 x.i.n.v,.int .i64 x.i.n.t,.slice x.i.p.AL x.i.n.L.length x.i.p.cL,.slice x.i.p.Ab (len x.i.n.body) x.i.p.cb,.slice x.i.p.Ae (len x.i.n.els) x.i.p.ce,.bool x.i.n.he,.slice x.fs.A x.fs.zs.length x.fs.c]:Value))
 |Da:GIn 219 65 10 144 (λx:Da=>([.int .i64 x.i.n.op,.int .i64 x.i.n.a,.int .i64 x.i.n.b,.int .u64 x.i.n.v,.int .i64 x.i.n.t,.slice x.i.p.AL x.i.n.L.length x.i.p.cL,.slice x.i.p.Ab (len x.i.n.body) x.i.p.cb,.slice x.i.p.Ae (len x.i.n.els) x.i.p.ce,.bool x.i.n.he,.slice x.bs.A x.bs.bs.length x.bs.c]:List Value)) (λx:Da=>(.agg #[.int .i64 x.i.n.op,.int .i64 x.i.n.a,.int .i64 x.i.n.b,.int .u64 x.i.n.v,.int .i64 x.i.n.t,.slice x.i.p.AL x.i.n.L.length x.i.p.cL,.slice x.i.p.Ab (len x.i.n.body) x.i.p.cb,.slice x.i.p.Ae (len x.i.n.els) x.i.p.ce,.bool x.i.n.he,.slice x.bs.A x.bs.bs.length x.bs.c]:Value))
theorem elem_Fng:ElemK prog 55 3 56:=ElemK.mk_ (z:=.agg #[.int .i64 0,.slice none 0 0,.slice none 0 0]) (by kernel_rfl) rfl
theorem elem_intg:ElemK prog 3 1 8:=ElemK.mk_ (z:=.int .i64 0) (by kernel_rfl) rfl
theorem GIn.el{β:Type}{f:Nat}{e:TypeId}{kc y:Nat}{cells:β->List Value}{val:β->Value}(h:GIn f e kc y cells val):ElemK prog e kc y:=by
 cases h
 ·exact ElemK.mk_ (z:=.int .i64 0) (by kernel_rfl) rfl
 ·exact ElemK.mk_ (z:=.int .u8 0) (by kernel_rfl) rfl
 ·exact ElemK.mk_ (z:=.agg #[.int .i64 0,.int .i64 0,.bool false]) (by kernel_rfl) rfl
 ·exact ElemK.mk_ (z:=.agg #[.slice none 0 0,.slice none 0 0]) (by kernel_rfl) rfl
 ·exact ElemK.mk_ (z:=.agg #[.string ⟨#[]⟩,.string ⟨#[]⟩,.int .i64 0,.int .i64 0,.bool false,.int .i64 0,.int .i64 0,.bool false]) (by kernel_rfl) rfl
 ·exact ElemK.mk_ (z:=.agg #[.int .i64 0,.bool false,.int .i64 0,.int .i64 0,.int .i64 0,.int .u64 0,.int .i64 0,.slice none 0 0,.slice none 0 0,.slice none 0 0,.bool false]) (by kernel_rfl) rfl
 ·exact ElemK.mk_ (z:=.agg #[.string ⟨#[]⟩,.int .i64 0,.int .i64 0]) (by kernel_rfl) rfl
 ·exact ElemK.mk_ (z:=.agg #[.int .i64 0,.int .i64 0,.int .i64 0,.int .u64 0,.int .i64 0,.slice none 0 0,.slice none 0 0,.slice none 0 0,.bool false,.slice none 0 0]) (by kernel_rfl) rfl
 ·exact ElemK.mk_ (z:=.agg #[.int .i64 0,.int .i64 0,.int .i64 0,.int .u64 0,.int .i64 0,.slice none 0 0,.slice none 0 0,.slice none 0 0,.bool false,.slice none 0 0]) (by kernel_rfl) rfl
theorem GIn.one{β:Type}{f:Nat}{e:TypeId}{kc y:Nat}{cells:β->List Value}{val:β->Value}(h:GIn f e kc y cells val)(b:β):∀u∈cells b,u.oneCell'=true:=by
 cases h<;>(intro u hu;simp only[List.mem_cons,List.not_mem_nil,or_false]at hu;(repeat' rcases hu with rfl|hu);all_goals first|rfl|(subst hu;rfl))
theorem glist_any{α β:Type}{f:Nat}{e:TypeId}{kc y:Nat}{cells:β->List Value}{val:β->Value}(hI:GIn f e kc y cells val)(k:Nat)(hk:∀(a:Array Value) (w:World),Sem.run prog (callFunc k a) w=.ok (.enter k a) w)(caps:Array Value)(g:Bin.Rd α)(key:β->α)(Fr:(Nat->Prop)->World->β->Prop)(hmv:Moves Fr)(L:Int)(lim:Nat)(hL:L=lim)(hl1:lim<=4294967295)
  {R:Nat} {w0 w:World} {A:Option Addr} {c:Nat} {bs:List UInt8} {st:Option Nat} {p:Nat} {er:Value} (h:Rst R w0 w A c bs st p er)
  (H:∀w' st' p' er',Rst R w0 w' A c bs st' p' er'->Kx (Only R) w w'->Calls prog k caps w' (RdE val key Fr R w0 w' A c bs (st'.bind λq=>g bs q))):
  Calls prog f #[pR R,.int .i64 L,.func (.func k) #[] caps] w (RdL kc cells key Fr R w0 w A c bs (st.bind λq=>Bin.gList lim g bs q)):=by
 have HC:=hid (rcount_any L (by omega) (by omega) h)
 have hRw:=h.lt
 obtain⟨r,hr⟩:∃r,(st.bind λq=>Bin.gCount (lim:Int) bs q)=r:=⟨_,rfl⟩
 rw[gList_of hr]
 rw[hL,hr]at HC
 obtain⟨res,hres⟩:∃res,(r.bind λx=>Bin.gN g x.1.toNat bs x.2)=res:=⟨_,rfl⟩
 rw[hres]
 refine postL λP hP=>?_
 have HP:=hid hP
 have HR:=hid hres
 have HH:=hid H
 have HM:=hid hmv
 have hm9:(L:Int)<=4294967295:=by omega
 clear hr hP hres H h hmv
 unfold RdQ at HC
 have HEl:=hid hI.el
 have HOn:=hid hI.one
 obtain⟨e',k',c',hE⟩:∃(e':TypeId) (k':Nat) (c':β->List Value),e'=e/\k'=kc/\c'=cells:=⟨e,kc,cells,rfl,rfl,rfl⟩
 have HE':=hid hE
 clear hE
 cases hI
 all_goals
  first|go_enter func31,ntmps31|go_enter func242,ntmps242|go_enter func137,ntmps137|go_enter func196,ntmps196|go_enter func200,ntmps200|go_enter func205,ntmps205|go_enter func208,ntmps208|go_enter func210,ntmps210|go_enter func219,ntmps219
  go_wp2_with(first
   |(go_at_call 132;(with_reducible refine HC.out.mono ?_);rintro e w1 ⟨v1,p1,er1,rfl,h1,hk1,⟨m,rfl,hm0,hm1⟩,hv1⟩;have HST:=hid (GlX.start (e:=e') (k:=k') (cells:=c') (key:=key) (Fr:=Fr) (g:=g) hm0 h1 hk1 hv1);clear h1 hk1 hv1))
  go_loopw [7,12] (λv i wr=>GlX R w0 w A c bs e' k' c' key Fr g m.toNat res v i wr) (λ_ i _=>m.toNat-(intOf i).toNat)
  case atStart=>rw[HR.out]at HST;exact HST.out
  case round=>
   clear HST
   obtain⟨rfl,rfl,rfl⟩:=HE'.out
   obtain⟨j,bl,st',p',er',rfl,hbl,hjm,hr,hkx,how,hnw,hre,hs⟩:=hrel
   have HJ:=hid hr
   have HKj:=hid hkx
   have HOw:=hid how
   have HNw:=hid hnw
   have HRe:=hid hre
   have HS:=hid hs
   have HBl:=hid hbl
   clear hr hkx how hnw hre hs hbl
   by_cases hlt:j<m.toNat
   ·
    have hlt':(j:Int)<m:=by omega
    have HC:=hid (HH.out _ _ _ _ HJ.out HKj.out)
    obtain⟨r2,hr2⟩:∃r2,(st'.bind λq=>g bs q)=r2:=⟨_,rfl⟩
    rw[hr2]at HC
    unfold RdE RdQ at HC
    cases r2 with
    |none=>
     have HX:=hid ((glx_none hlt hr2).symm.trans HRe.out)
     clear hr2
     go_wp2_with fail
     refine HC.out.mono ?_
     rintro e w2 ⟨v2,p2,er2,rfl,h2,hk2,⟨b,rfl⟩,-⟩
     obtain⟨hx0,-⟩|⟨-,sb,so,rfl⟩:=h2.lk
     ·exact absurd hx0 (by simp)
     have d2:=h2.c2
     have hl2:=h2.lt
     have d3:=h2.fr 2
     have HR2:=hid h2
     have HK2:=hid (HKj.out.trans hk2)
     clear h2 hk2
     go_wp2_with fail
     rw[<-HP.out,<-HX.out]
     first|exact⟨_,p2,_,rfl,HR2.out.alloc _,HK2.out.alloc _,rfl⟩|exact⟨_,p2,_,rfl,HR2.out,HK2.out,rfl⟩
    |some xq=>
     obtain⟨x,q'⟩:=xq
     have HX:=hid ((glx_some hlt hr2).symm.trans HRe.out)
     clear hr2
     go_wp2_with fail
     refine HC.out.mono ?_
     rintro e w2 ⟨v2,p2,er2,rfl,h2,hk2,-,hv2⟩
     obtain⟨b,rfl,hkey,hfb⟩:=hv2 x q' rfl
     obtain⟨-,rfl⟩|⟨hx0,-⟩:=h2.lk
     case inr=>cases hx0
     have d2:=h2.c2
     have hl2:=h2.lt
     have d3:=h2.fr 2
     have HR2:=hid h2
     have HK2:=hid hk2
     have HO2:=hid (HOw.out.kx hk2 hRw)
     have HFb:=hid hfb
     have HKey:=hid hkey
     have hone:=HOn.out b
     have HOne:=hid hone
     have hbl2:=HBl.out
     clear h2 hk2 hfb hkey hv2 hone
     go_wp2_with(first
      |(at_builtin;refine wpList_pushK rfl (.tmp 21) (.tmp 23) _ rfl _ (by kernel_rfl) HEl.out (by decide) _ _ _ rfl (by first|exact HO2.out.alloc _|exact HO2.out) rfl (by simp) rfl HOne.out (by rw[zd];omega) (by rw[zd];unfold maxLen;omega) ?_;intro v3 w3 ho3 hk3 hs3;have HO3:=hid ho3;have HK3:=hid hk3;have HS3:=hid hs3;clear ho3 hk3 hs3))
     go_roundw
     case rel=>exact GlX.push HM.out hRw HBl.out hlt HKj.out HOw.out HNw.out HX.out HK2.out HFb.out HKey.out HR2.out (by first|exact(zx _ _).alloc (zq _) _|exact zx _ _) HO3.out HK3.out HS3.out (by go_num)
     case measure=>simp[intOf];omega
   ·
    have hlt':¬(j:Int)<m:=by omega
    have HD:=hid (GlX.done HM.out (by decide) HBl.out (by omega) HJ.out HKj.out HOw.out HNw.out HRe.out HS.out)
    go_wp2_with fail
    rw[<-HP.out]
    exact HD.out
end Go.Proofs.YteoijlfipmaoeaaGreatDoor
