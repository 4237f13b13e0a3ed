import Derived.Test.YteoijlfipmaoeaaGreatDoorPBinW
import Derived.Test.YteoijlfipmaoeaaGreatDoorPJ32
set_option linter.unusedVariables false
set_option linter.unusedSimpArgs false
set_option linter.unusedSectionVars false
set_option maxRecDepth 100000
set_option maxHeartbeats 64000000
namespace Go.Proofs.YteoijlfipmaoeaaGreatDoor
open Go.RowKit Trx
open Go.Proofs.Tryz
theorem ret_of{α β:Type}{st:Option Nat}{bs:List UInt8}{g:Bin.Rd α}{f:α->β}{r:Option (α×Nat)}(h:(st.bind λq=>g bs q)=r):(st.bind λq=>(Bin.bnd g λx=>Bin.ret (f x)) bs q)=r.map λx=>(f x.1,x.2):=by
 rw[res_of h]
 cases r<;>rfl
theorem lim_ok{l:Lm}(h:(Bin.pLim l).2=true):l.ok:=by
 obtain⟨mn,mx,hs⟩:=l
 cases hs
 ·
  simp[Bin.pLim,Bin.cat,Bin.pFlag,Bin.pNum]at h
  have h1:=(num32_iff mn).1 h.1
  rw[h.2]
  exact⟨(by show inI mn;unfold inI;omega),inI0⟩
 ·
  simp[Bin.pLim,Bin.cat,Bin.pFlag,Bin.pNum]at h
  have h1:=(num32_iff mn).1 h.1
  have h2:=(num32_iff mx).1 h.2
  exact⟨(by show inI mn;unfold inI;omega),(by show inI mx;unfold inI;omega)⟩
theorem tab_ok{l:Lm}(h:(Bin.pTab l).2=true):l.ok:=by
 unfold Bin.pTab Bin.cat at h
 simp only[zp]at h
 exact lim_ok h.2
inductive SI(R X:Nat):Int->Nat->Nat->Array Value->Prop
 |i1:SI R X 1 0 135 #[pR R]
 |i2:SI R X 2 1 136 #[pR R]
 |i4:SI R X 4 3 137 #[pR R,.int .i64 64,.func (.func 138) #[] #[.pointer (some ⟨X,0,none⟩)]]
 |i5:SI R X 5 4 137 #[pR R,.int .i64 64,.func (.func 140) #[] #[.pointer (some ⟨X,0,none⟩)]]
 |i6:SI R X 6 5 142 #[pR R]
 |i7:SI R X 7 6 143 #[pR R]
 |i9:SI R X 9 8 144 #[pR R]
 |i10:SI R X 10 2 145 #[pR R]
 |i11:SI R X 11 9 146 #[pR R]
theorem SI.lt{R X:Nat}{id:Int}{j fn:Nat}{args:Array Value}(h:SI R X id j fn args):j<11:=by cases h<;>decide
section
variable{R:Nat}{w0 w:World}{A:Option Addr}{c:Nat}{bs:List UInt8}{st:Option Nat}{p:Nat}{er:Value}{Mb lo:Nat}{d:Bin.Dm}{m:Mo}{tl:IL}
@[reducible] def ScQ(R Mb lo:Nat)(w0 w:World)(A:Option Addr)(c:Nat)(bs:List UInt8)(tl:IL)(res:Option (Bin.Dm×Nat)):Ending->World->Prop:=λe w2=>e=.returned (.tuple #[])/\∃st' p' er',Rst R w0 w2 A c bs st' p' er'/\MdQ R Mb lo w tl res st' w2
variable(h:Rst R w0 w A c bs st p er)(hB:Bk R w Mb m.cells)(hRlo:R<lo)(hMlo:Mb<lo)(hge:w0.heap.size<=Mb)
include h hB hRlo hMlo hge
theorem sec_put{α β:Type}{id:Int}{j fn:Nat}{args:Array Value}(hI:SI R w.heap.size id j fn args){g:Bin.Rd α}{f:α->Bin.Dm}{fm:SL β->Mo}{H:α->SL β->World->Prop}(hr:Bin.rdS id d=Bin.bnd g λx=>Bin.ret (f x))
  (HL:Calls prog fn args (w.alloc (.cells #[pR R] 88)) λe w1=>∃(s:SL β) (p':Nat) (er':Value),e=.returned (.slice s.A s.l.length s.c)/\Rst R w0 w1 A c bs ((st.bind λq=>g bs q).map (·.2)) p' er'/\Kx (Only R) (w.alloc (.cells #[pR R] 88)) w1/\∀x q,(st.bind λq=>g bs q)=some (x,q)->H x s w1)
  (hc:∀s,(fm s).cells=m.cells.set j s.v)
  (hp:∀w1 s x q,(st.bind λq=>g bs q)=some (x,q)->Kx (Only R) (w.alloc (.cells #[pR R] 88)) w1->H x s w1->DmP lo w1 (f x) (fm s) tl):
  Calls prog 34 #[pR R,.pointer (some ⟨Mb,0,none⟩),.int .i64 id] w (ScQ R Mb lo w0 w A c bs tl (st.bind λq=>Bin.rdS id d bs q)):=by
 have hj:=hI.lt
 obtain⟨v0,hv0⟩:∃v0,m.cells[j]? =some v0:=⟨_,zb (show j<m.cells.length from hj)⟩
 have hlt:=h.lt
 have hMR:=hB.ne
 obtain⟨W0,hW0⟩:∃W0:World,W0=w.alloc (.cells #[pR R] 88):=⟨_,rfl⟩
 have HB0:Hid (Bk R W0 Mb m.cells):=Lib.hid (by rw[hW0];exact hB.alloc _)
 have HK0:Hid (Kx (Mk R Mb lo) w W0):=Lib.hid (by rw[hW0];exact Kx.refl_.alloc _)
 rw[<-hW0]at HL hp
 have HL:=Lib.hid HL
 have HE:Hid ((st.bind λq=>Bin.rdS id d bs q)=(st.bind λq=>g bs q).map λx=>(f x.1,x.2)):=Lib.hid (by rw[hr];exact ret_of rfl)
 have HQ:Hid (∀(w1:World) (s:SL β) (p1:Nat) (er1:Value),Rst R w0 w1 A c bs ((st.bind λq=>g bs q).map (·.2)) p1 er1->Kx (Only R) W0 w1->(∀x q,(st.bind λq=>g bs q)=some (x,q)->H x s w1)->
   ScQ R Mb lo w0 w A c bs tl (st.bind λq=>Bin.rdS id d bs q) (.returned (.tuple #[])) (w1.setCell ⟨Mb,j,none⟩ (.slice s.A s.l.length s.c))):=Lib.hid (by
  intro w1 s p1 er1 h1 hk1 hv1
  refine⟨rfl,_,p1,er1,h1.setOther hge hMR j _,by rw[HE.out,Option.map_map];rfl,(HK0.out.trans (hk1.mono λb hb=>.inl hb)).setCell (p:=⟨Mb,j,none⟩) (.inl (.inr (.inl rfl))) _,λy q e=>?_⟩
  rw[HE.out]at e
  obtain⟨x,hx,rfl⟩:=map_some (f:=f) e
  exact⟨fm s,by rw[hc];exact(HB0.out.kx hk1).set j _ hj,(hp w1 s x q hx hk1 (hv1 x q hx)).kx (M:=Only Mb) ((Kx.refl_ (M:=Only Mb)).setCell (p:=⟨Mb,j,none⟩) (.inl rfl) _) (by rintro b rfl;exact hMlo)⟩)
 have HY:=Lib.hid (λw1 (hk:Kx (Only R) W0 w1)=>(HB0.out.kx hk).cell j v0 hv0)
 have HF:=Lib.hid (λw1 (hk:Kx (Only R) W0 w1)=>(HB0.out.kx hk).fr j)
 generalize(st.bind λq=>g bs q)=r at HL HQ
 generalize ScQ R Mb lo w0 w A c bs tl (st.bind λq=>Bin.rdS id d bs q)=P at HQ⊢
 clear hp hc hr h hB hv0 hj HE HK0 HB0
 cases hI
 all_goals
  go_enter func34,ntmps34
  go_wp2_with fail
  rw[<-hW0]
  clear hW0
  refine HL.out.mono ?_
  rintro e w1 ⟨s,p1,er1,rfl,h1,hk1,hv1⟩
  have HR:=Lib.hid (HQ.out w1 s p1 er1 h1 hk1 hv1)
  have y0:=HY.out w1 hk1
  have g0:=HF.out w1 hk1
  clear h1 hk1 hv1
  go_wp2_with fail
  go_end0
  exact HR.out
theorem sec_0(hD:DmP lo w d m tl)(hU:U8T w0)(hE:Et w0)(hlen:bs.length<=100000000):
  Calls prog 34 #[pR R,.pointer (some ⟨Mb,0,none⟩),.int .i64 0] w (ScQ R Mb lo w0 w A c bs tl (st.bind λq=>Bin.rdS 0 d bs q)):=by
 have hlt:=h.lt
 have hMR:=hB.ne
 obtain⟨W0,hW0⟩:∃W0:World,W0=w.alloc (.cells #[pR R] 88):=⟨_,rfl⟩
 have HB0:Hid (Bk R W0 Mb m.cells):=Lib.hid (by rw[hW0];exact hB.alloc _)
 have HK0:Hid (Kx (Mk R Mb lo) w W0):=Lib.hid (by rw[hW0];exact Kx.refl_.alloc _)
 have HC:=Lib.hid (rcustom_any hU hE (by rw[hW0];exact h.alloc _) hlen HB0.out (show DmP lo W0 d m tl by rw[hW0];exact hD.kx (M:=λ_=>False) (Kx.refl_.alloc _) (λ_ h=>h.elim)) hRlo hMlo hge)
 have HQ:Hid (∀(w1:World) (st1:Option Nat) (p1:Nat) (er1:Value),Rst R w0 w1 A c bs st1 p1 er1->MdQ R Mb lo W0 tl (st.bind λq=>Bin.rdS 0 d bs q) st1 w1->ScQ R Mb lo w0 w A c bs tl (st.bind λq=>Bin.rdS 0 d bs q) (.returned (.tuple #[])) w1):=Lib.hid λw1 st1 p1 er1 h1 g=>⟨rfl,st1,p1,er1,h1,g.1,HK0.out.trans g.2.1,g.2.2⟩
 generalize ScQ R Mb lo w0 w A c bs tl (st.bind λq=>Bin.rdS 0 d bs q)=P at HQ⊢
 clear h hB hD hU hE
 go_enter func34,ntmps34
 go_wp2_with fail
 rw[<-hW0]
 clear hW0
 refine HC.out.mono ?_
 rintro e w1 ⟨rfl,st1,p1,er1,h1,g1,g2,g3⟩
 have HR:=Lib.hid (HQ.out w1 st1 p1 er1 h1 ⟨g1,g2,g3⟩)
 go_wp2_with fail
 go_end0
 exact HR.out
theorem sec_8(hD:DmP lo w d m tl):
  Calls prog 34 #[pR R,.pointer (some ⟨Mb,0,none⟩),.int .i64 8] w (ScQ R Mb lo w0 w A c bs tl (st.bind λq=>Bin.rdS 8 d bs q)):=by
 have hlt:=h.lt
 have hMR:=hB.ne
 obtain⟨W0,hW0⟩:∃W0:World,W0=w.alloc (.cells #[pR R] 88):=⟨_,rfl⟩
 have HB0:Hid (Bk R W0 Mb m.cells):=Lib.hid (by rw[hW0];exact hB.alloc _)
 have HK0:Hid (Kx (Mk R Mb lo) w W0):=Lib.hid (by rw[hW0];exact Kx.refl_.alloc _)
 have HD0:Hid (DmP lo W0 d m tl):=Lib.hid (by rw[hW0];exact hD.kx (M:=λ_=>False) (Kx.refl_.alloc _) (λ_ h=>h.elim))
 have HE:Hid ((st.bind λq=>Bin.rdS 8 d bs q)=(st.bind λq=>Bin.gNum bs q).map λx=>({d with st:=x.1},x.2)):=Lib.hid (by rw[show Bin.rdS 8 d=Bin.bnd Bin.gNum λx=>Bin.ret {d with st:=x}from rfl];exact ret_of rfl)
 have HL:=Lib.hid (rnumber_any (show Rst R w0 W0 A c bs st p er by rw[hW0];exact h.alloc _))
 have HQ:Hid (∀(w1:World) (n:Int) (p1:Nat) (er1:Value),Rst R w0 w1 A c bs ((st.bind λq=>Bin.gNum bs q).map (·.2)) p1 er1->Kx (Only R) W0 w1->0<=n->n<=4294967295->(∀x q,(st.bind λq=>Bin.gNum bs q)=some (x,q)->Value.int .i64 n=.int .i64 x)->
   ScQ R Mb lo w0 w A c bs tl (st.bind λq=>Bin.rdS 8 d bs q) (.returned (.tuple #[])) (w1.setCell ⟨Mb,7,none⟩ (.int .i64 n))):=Lib.hid (by
  intro w1 n p1 er1 h1 hk1 hn0 hn1 hv1
  refine⟨rfl,_,p1,er1,h1.setOther hge hMR 7 _,by rw[HE.out,Option.map_map];rfl,(HK0.out.trans (hk1.mono λb hb=>.inl hb)).setCell (p:=⟨Mb,7,none⟩) (.inl (.inr (.inl rfl))) _,λy q e=>?_⟩
  rw[HE.out]at e
  obtain⟨x,hx,rfl⟩:=map_some (f:=λx=>{d with st:=x}) e
  obtain rfl:=i64_inj (hv1 x q hx)
  exact⟨{m with st:=n},(HB0.out.kx hk1).set 7 _ (by simp),(HD0.out.putSt hk1 hRlo (by unfold inI;omega)).kx (M:=Only Mb) ((Kx.refl_ (M:=Only Mb)).setCell (p:=⟨Mb,7,none⟩) (.inl rfl) _) (by rintro b rfl;exact hMlo)⟩)
 have HB:=Lib.hid (λw1 (hk:Kx (Only R) W0 w1)=>HB0.out.kx hk)
 generalize ScQ R Mb lo w0 w A c bs tl (st.bind λq=>Bin.rdS 8 d bs q)=P at HQ⊢
 unfold RdQ at HL
 clear h hB hD HE HD0 HK0 HB0
 go_enter func34,ntmps34
 go_wp2_with fail
 rw[<-hW0]
 clear hW0
 refine HL.out.mono ?_
 rintro e w1 ⟨v1,p1,er1,rfl,h1,hk1,⟨n,rfl,hn0,hn1⟩,hv1⟩
 have HR:=Lib.hid (HQ.out w1 n p1 er1 h1 hk1 hn0 hn1 hv1)
 have y0:=(HB.out w1 hk1).cell 7 _ rfl
 have g0:=(HB.out w1 hk1).fr 7
 clear h1 hk1 hv1 hn0 hn1
 go_wp2_with fail
 go_end0
 exact HR.out
theorem rsection_any(hN:Nam w0)(hU:U8T w0)(hE:Et w0)(hlen:bs.length<=100000000)(hD:DmP lo w d m tl)(id:Int)(h0:0<=id)(h11:id<=11)(h3:id≠3):
  Calls prog 34 #[pR R,.pointer (some ⟨Mb,0,none⟩),.int .i64 id] w (ScQ R Mb lo w0 w A c bs tl (st.bind λq=>Bin.rdS id d bs q)):=by
 have hid:id=0\/id=1\/id=2\/id=4\/id=5\/id=6\/id=7\/id=8\/id=9\/id=10\/id=11:=by omega
 have h':=h.alloc (.cells #[pR R] 88)
 have hD':DmP lo (w.alloc (.cells #[pR R] 88)) d m tl:=hD.kx (M:=λ_=>False) (Kx.refl_.alloc _) (λ_ h=>h.elim)
 have hne:w.heap.size≠R:=by have:=h.lt;omega
 have hX:(w.alloc (.cells #[pR R] 88)).cell? ⟨w.heap.size,0,none⟩=some (pR R):=by rw[zv _ _ _ _ rfl];rfl
 rcases hid with rfl|rfl|rfl|rfl|rfl|rfl|rfl|rfl|rfl|rfl|rfl
 ·exact sec_0 h hB hRlo hMlo hge hD hU hE hlen
 ·exact sec_put h hB hRlo hMlo hge .i1 (g:=Bin.gList 64 Bin.gFt) (f:=λx=>{d with ty:=x}) (fm:=λs=>{m with ty:=s}) rfl ((rTys_any h').mono λe w' hx=>hx.sl (cells':=Ty.cells) (by_:=48) rfl (by omega) (λx q e=>(h'.got (Bin.list_got Bin.ft_got 64) e).2.1)) (λ_=>rfl) (λw1 s x q e hk g=>hD'.putTy hk hRlo g.1 g.2)
 ·exact sec_put h hB hRlo hMlo hge .i2 (g:=Bin.gList 64 Bin.gIm) (f:=λx=>{d with im:=x}) (fm:=λs=>{m with im:=s}) rfl ((rIms_any hU hE h').mono λe w' hx=>hx.sl (cells':=Im.cells) (by_:=80) rfl (by omega) (λx q e=>(h'.got (Bin.list_got Bin.im_got 64) e).2.1)) (λ_=>rfl) (λw1 s x q e hk g=>hD'.putIm hk hRlo g.1 g.2)
 ·exact sec_put h hB hRlo hMlo hge .i4 (g:=Bin.gList 64 Bin.gTab) (f:=λx=>{d with ta:=x}) (fm:=λs=>{m with ta:=s}) rfl ((glist_any .Lm 138 (λ_ _=>rfl) #[.pointer (some ⟨w.heap.size,0,none⟩)] Bin.gTab (λx=>x) FrT FrT.moves 64 64 rfl (by omega) h' (λw' st' p' er' h' hk'=>c_section1 h' (hk'.cell (b:=w.heap.size) hne hX))).mono λe w' hx=>hx.slT (cells':=Lm.cells) (by_:=24) (okE:=Lm.ok) rfl (by omega) (λx q e=>⟨(h'.got (Bin.list_got Bin.tab_got 64) e).2.1,λz hz=>tab_ok (pAll_all (h'.got (Bin.list_got Bin.tab_got 64) e).1 z hz)⟩)) (λ_=>rfl) (λw1 s x q e hk g=>hD'.putTa hk hRlo g.1 g.2)
 ·exact sec_put h hB hRlo hMlo hge .i5 (g:=Bin.gList 64 Bin.gLim) (f:=λx=>{d with me:=x}) (fm:=λs=>{m with me:=s}) rfl ((glist_any .Lm 140 (λ_ _=>rfl) #[.pointer (some ⟨w.heap.size,0,none⟩)] Bin.gLim (λx=>x) FrT FrT.moves 64 64 rfl (by omega) h' (λw' st' p' er' h' hk'=>c_section2 h' (hk'.cell (b:=w.heap.size) hne hX))).mono λe w' hx=>hx.slT (cells':=Lm.cells) (by_:=24) (okE:=Lm.ok) rfl (by omega) (λx q e=>⟨(h'.got (Bin.list_got Bin.lim_got 64) e).2.1,λz hz=>lim_ok (pAll_all (h'.got (Bin.list_got Bin.lim_got 64) e).1 z hz)⟩)) (λ_=>rfl) (λw1 s x q e hk g=>hD'.putMe hk hRlo g.1 g.2)
 ·exact sec_put h hB hRlo hMlo hge .i6 (g:=Bin.gList 64 Bin.gGl) (f:=λx=>{d with gl:=x}) (fm:=λs=>{m with gl:=s}) rfl ((rGls_any hN h').mono λe w' hx=>hx.sl (cells':=Gl.cells) (by_:=136) rfl (by omega) (λx q e=>(h'.got (Bin.list_got Bin.gl_got 64) e).2.1)) (λ_=>rfl) (λw1 s x q e hk g=>hD'.putGl hk hRlo g.1 g.2)
 ·exact sec_put h hB hRlo hMlo hge .i7 (g:=Bin.gList 64 Bin.gEx) (f:=λx=>{d with ex:=x}) (fm:=λs=>{m with ex:=s}) rfl ((rExs_any hU hE h').mono λe w' hx=>hx.sl (cells':=Ex.cells) (by_:=32) rfl (by omega) (λx q e=>(h'.got (Bin.list_got Bin.ex_got 64) e).2.1)) (λ_=>rfl) (λw1 s x q e hk g=>hD'.putEx hk hRlo g.1 g.2)
 ·exact sec_8 h hB hRlo hMlo hge hD
 ·exact sec_put h hB hRlo hMlo hge .i9 (g:=Bin.gList 64 Bin.gEl) (f:=λx=>{d with el:=x}) (fm:=λs=>{m with el:=s}) rfl ((rEls_any hN h').mono λe w' hx=>hx.sl (cells':=El.cells) (by_:=144) rfl (by omega) (λx q e=>(h'.got (Bin.list_got Bin.el_got 64) e).2.1)) (λ_=>rfl) (λw1 s x q e hk g=>hD'.putEl hk hRlo g.1 g.2)
 ·
  refine sec_put h hB hRlo hMlo hge .i10 (g:=Bin.gList 64 Bin.gFn) (f:=λx=>{d with fn:=x}) (fm:=λs=>{m with fn:=s}) (H:=λx s w1=>s.l.map kCo=x/\OwnK (w.alloc (.cells #[pR R] 88)).heap.size w1 w1 55 3 s.v (s.l.map Fn.cells)/\∀b∈s.l,FrK Fn.ok (CpV (w.alloc (.cells #[pR R] 88)).heap.size w1 s.v) w1 b) rfl ((rFns_any hN h').mono λe w1 hx=>?_) (λ_=>rfl) (λw1 s x q e hk g=>hD'.putFn hk hRlo g.1 (h'.got (Bin.list_got Bin.fn_got 64) e).2.1 g.2.1 g.2.2)
  obtain⟨v,p',er',h1,h2,h3,h4⟩:=hx
  generalize(st.bind λq=>Bin.gList 64 Bin.gFn bs q)=r at h2 h4⊢
  cases r with
  |none=>
   dsimp only at h4
   subst h4
   exact⟨⟨[],none,0⟩,p',er',h1,h2,h3,λ_ _ e=>by cases e⟩
  |some y=>
   obtain⟨y,q⟩:=y
   obtain⟨A1,bl,c1,rfl,g1,g2,g3,g4,g5⟩:=h4
   exact⟨⟨bl,A1,c1⟩,p',er',h1,h2,h3,λx q' e=>(by injection e with e;injection e with e1 e2;subst e1;exact⟨g3,g4,g5⟩)⟩
 ·exact sec_put h hB hRlo hMlo hge .i11 (g:=Bin.gList 64 Bin.gDa) (f:=λx=>{d with da:=x}) (fm:=λs=>{m with da:=s}) rfl ((rDas_any hN h').mono λe w' hx=>hx.sl (cells':=Da.cells) (by_:=144) rfl (by omega) (λx q e=>(h'.got (Bin.list_got Bin.da_got 64) e).2.1)) (λ_=>rfl) (λw1 s x q e hk g=>hD'.putDa hk hRlo g.1 g.2)
end
end Go.Proofs.YteoijlfipmaoeaaGreatDoor
namespace Go.Proofs.YteoijlfipmaoeaaGreatDoor
open Lib (hid)
open Go.RowKit Trx
open Go.Proofs.Tryz
@[reducible] def Mk3(R Mb T lo:Nat):Nat->Prop:=λb=>b=R\/b=Mb\/b=T\/lo<=b
def DcQ(R Mb T lo:Nat)(w:World)(res:Option (Bin.Dm×Nat)):Option Nat->World->Prop:=λst' w2=>st'=res.map (·.2)/\Kx (Mk3 R Mb T lo) w w2/\∀y q,res=some (y,q)->∃(m':Mo) (tl':IL),Bk R w2 Mb m'.cells/\Bk R w2 T [.slice tl'.A tl'.zs.length tl'.c]/\DmP lo w2 y m' tl'
theorem nums_in{l:List Int}(h:(Bin.pList Bin.pNum l).2=true):∀z∈l,inI z:=λz hz=>by
 have h1:=pAll_all h z hz
 simp only[Bin.pNum]at h1
 have:=(num32_iff z).1 h1
 unfold inI
 omega
section
variable{R:Nat}{w0 w:World}{A:Option Addr}{c:Nat}{bs:List UInt8}{st:Option Nat}{p:Nat}{er:Value}
theorem c_dec1{Sb X Mb T lo:Nat}{d:Bin.Dm}{m:Mo}{tl:IL}{id:Int}(hN:Nam w0)(hU:U8T w0)(hE:Et w0)(h:Rst R w0 w A c bs st p er)(hlen:bs.length<=100000000)(hS:w.cell? ⟨Sb,0,none⟩=some (.int .i64 id))(hX:w.cell? ⟨X,0,none⟩=some (pR R))(hXR:X≠R)
  (hB:Bk R w Mb m.cells) (hT:Bk R w T [.slice tl.A tl.zs.length tl.c]) (hD:DmP lo w d m tl) (hRlo:R<lo) (hMlo:Mb<lo) (hTlo:T<lo) (hMT:Mb≠T) (hge:w0.heap.size<=Mb) (hgt:w0.heap.size<=T) (h0:0<=id) (h11:id<=11):
  Calls prog 30 #[.pointer (some ⟨Sb,0,none⟩),.pointer (some ⟨X,0,none⟩),.pointer (some ⟨T,0,none⟩),.pointer (some ⟨Mb,0,none⟩)] w λe w2=>e=.returned (.tuple #[])/\∃st' p' er',Rst R w0 w2 A c bs st' p' er'/\DcQ R Mb T lo w (st.bind λq=>Bin.rdS id d bs q) st' w2:=by
 have hTR:=hT.ne
 refine postL λP hP=>?_
 have HP:=hid hP
 by_cases h3:id=3
 ·
  subst h3
  obtain⟨r,hr⟩:∃r,(st.bind λq=>Bin.gList 64 Bin.gNum bs q)=r:=⟨_,rfl⟩
  have HE:Hid ((st.bind λq=>Bin.rdS 3 d bs q)=r.map λx=>({d with ft:=x.1},x.2)):=hid (by rw[show Bin.rdS 3 d=Bin.bnd (Bin.gList 64 Bin.gNum) λx=>Bin.ret {d with ft:=x}from rfl];exact ret_of hr)
  have HL:=hid ((glist_any .int 32 (λ_ _=>rfl) #[.pointer (some ⟨X,0,none⟩)] Bin.gNum (λx=>x) FrT FrT.moves 64 64 rfl (by omega) h (λw' st' p' er' h' hk'=>c_decode11 h' (hk'.cell (show¬X=R from hXR) hX))).mono λe w' hx=>(hx.il λx q e=>(by
   obtain⟨h1,h2⟩:=h.got (Bin.list_got Bin.num_got 64) e
   exact⟨zy h2.1 (by decide),nums_in h1⟩)).one)
  rw[hr]at HL
  have HB:=hid hB
  have HT:=hid hT
  have HD:=hid hD
  clear hP hr h hB hT hD hN hU hE
  go_enter func30,ntmps30
  go_wp2_with fail
  refine HL.out.mono ?_
  rintro e w1 ⟨s,p1,er1,rfl,h1,hk1,hv1⟩
  have H1:=hid h1
  have HB1:=hid (HB.out.kx hk1)
  have HT1:=hid (HT.out.kx hk1)
  have HKo:=hid hk1
  have HV1:=hid hv1
  have y0:=HT1.out.cell 0 _ rfl
  have g0:=HT1.out.fr 0
  clear h1 hk1 hv1
  go_wp2_with fail
  go_end0
  rw[<-HP.out]
  refine⟨rfl,_,p1,er1,H1.out.setOther hgt hTR 0 _,by rw[HE.out];exact map_st (λx=>{d with ft:=x}),(HKo.out.mono (M':=Mk3 R Mb T lo) λb hb=>.inl hb).setCell (p:=⟨T,0,none⟩) (.inl (.inr (.inr (.inl rfl)))) _,λy q e=>?_⟩
  rw[HE.out]at e
  obtain⟨x,hx,rfl⟩:=map_some (f:=λx=>{d with ft:=x}) e
  obtain⟨g1,g2⟩:=HV1.out x q hx
  exact⟨m,s,HB1.out.setOther hMT.symm 0 _,HT1.out.set 0 _ (by simp),(HD.out.putFt HKo.out hRlo g1 g2).kx (M:=Only T) ((Kx.refl_ (M:=Only T)).setCell (p:=⟨T,0,none⟩) (.inl rfl) _) (by rintro b rfl;exact hTlo)⟩
 ·
  have HC:=hid (rsection_any h hB hRlo hMlo hge hN hU hE hlen hD id h0 h11 h3)
  have q3:(id==3)=false:=by simpa using h3
  have HT:=hid hT
  clear hP h hB hT hD hN hU hE
  go_enter func30,ntmps30
  go_wp2_with fail
  refine HC.out.mono ?_
  rintro e w1 ⟨rfl,st1,p1,er1,h1,g1,g2,g3⟩
  go_wp2_with fail
  go_end0
  rw[<-HP.out]
  refine⟨rfl,st1,p1,er1,h1,g1,g2.mono λb hb=>?_,λy q e=>?_⟩
  ·
   rcases hb with e|e|e
   ·exact .inl e
   ·exact .inr (.inl e)
   ·exact .inr (.inr (.inr e))
  ·
   obtain⟨m',k1,k2⟩:=g3 y q e
   exact⟨m',tl,k1,HT.out.kxm g2 (by rintro(e|e|e);exact hTR e;exact hMT e.symm;omega),k2⟩
end
theorem flatten_set{k:Nat}:∀(rs:List (List Value)) (j i:Nat) (r:List Value) (x:Value),(∀r∈rs,r.length=k)->rs[j]? =some r->i<k->(rs.set j (r.set i x)).flatten=rs.flatten.set (j * k+i) x/\rs.flatten[j * k+i]? =r[i]?/\j * k+i<rs.length * k
 | [],j,i,r,x,_,h,_=>by simp at h
 |r0::rs,0,i,r,x,hl,h,hi=>by
  have h0:=hl r0 jo
  simp at h
  subst h
  rw[Nat.zero_mul,qz,List.set_cons_zero,xy,xy,List.set_append_left _ _ (by omega),jx (by omega),zl,Nat.succ_mul]
  exact⟨rfl,rfl,by omega⟩
 |r0::rs,j+1,i,r,x,hl,h,hi=>by
  have h0:=hl r0 jo
  rw[List.getElem?_cons_succ]at h
  obtain⟨g1,g2,g3⟩:=flatten_set rs j i r x (λr hr=>hl r (xj _ hr)) h hi
  have e:(j+1) * k+i-r0.length=j * k+i:=by rw[Nat.succ_mul];omega
  have hle:r0.length<=(j+1) * k+i:=by rw[Nat.succ_mul];omega
  rw[List.set_cons_succ,xy,xy,List.set_append_right _ _ hle,List.getElem?_append_right hle,e,g1,g2,zl,Nat.succ_mul,Nat.succ_mul]
  exact⟨rfl,rfl,by omega⟩
theorem OwnK.setRow{B:Nat}{w0 w:World}{e:TypeId}{g c k:Nat}{rs:List (List Value)}(x:Value)(h:OwnK B w0 w e k (.slice (some ⟨g,0,none⟩) rs.length c) rs){j i:Nat}{r:List Value}(hj:rs[j]? =some r)(hi:i<k):
  w.cell? ⟨g,j * k+i,none⟩=r[i]?/\w.frozen? ⟨g,j * k+i,none⟩=false/\OwnK B w0 (w.setCell ⟨g,j * k+i,none⟩ x) e k (.slice (some ⟨g,0,none⟩) rs.length c) (rs.set j (r.set i x)):=by
 obtain⟨f1,f2,f3⟩:=flatten_set rs j i r x h.len hj hi
 refine⟨by rw[h.row.cellAt _ f3,f2],h.row.frozenAt _,?_⟩
 obtain⟨h1,h2⟩:=h.row.stored (j * k+i) x
 refine⟨by rw[List.length_set,f1];exact h1,λr' hr'=>?_,h.below.setCell (by have:=(h.own_lt rfl).1;exact this) _,by have:=h.le;simpa[World.setCell]using this⟩
 rcases List.mem_or_eq_of_mem_set hr' with h3|h3
 ·exact h.len r' h3
 ·
  subst h3
  rw[List.length_set]
  exact h.len r (zu hj)
theorem rise_all:∀(l:List Int) (hi:Int),0<=hi->Sect.rise hi l=true->∀x∈l,0<=x/\x<=11
 | [],_,_,_,x,hx=>by simp at hx
 |y::l,hi,h0,h,x,hx=>by
  rw[Sect.rise,zp]at h
  have hy:=Sect.fol_range h.1 h0
  rcases List.mem_cons.1 hx with rfl|hx
  ·exact hy
  ·exact rise_all l _ (by omega) h.2 x hx
theorem DmP.setTy{lo:Nat}{w:World}{d:Bin.Dm}{m:Mo}{tl:IL}(h:DmP lo w d m tl){g:Nat}(hA:m.fn.A=some ⟨g,0,none⟩){j:Nat}{x:Fn}(hx:m.fn.l[j]? =some x)(t:Int)(ht:inI t):
  w.cell? ⟨g,j * 3,none⟩=some (.int .i64 x.ty)/\w.frozen? ⟨g,j * 3,none⟩=false/\DmP lo (w.setCell ⟨g,j * 3,none⟩ (.int .i64 t)) d {m with fn:=⟨m.fn.l.set j {x with ty:=t},m.fn.A,m.fn.c⟩} tl:=by
 have hg:m.fn.v.ownBlock=some g:=by show(Value.slice m.fn.A m.fn.l.length m.fn.c).ownBlock=some g;rw[hA];rfl
 have hlo:=(h.fn.own_lt hg).1
 have hfn:OwnK lo w w 55 3 (.slice (some ⟨g,0,none⟩) (m.fn.l.map Fn.cells).length m.fn.c) (m.fn.l.map Fn.cells):=by rw[zd,<-hA];exact h.fn
 obtain⟨k1,k2,k3⟩:=hfn.setRow (.int .i64 t) (j:=j) (i:=0) (r:=x.cells) (by rw[zr,hx];rfl) (by omega)
 rw[qe]at k1 k2 k3
 have hkx:Kx (λb=>m.fn.v.ownBlock=some b) w (w.setCell ⟨g,j * 3,none⟩ (.int .i64 t)):=(Kx.refl_ (M:=λb=>m.fn.v.ownBlock=some b)).setCell (p:=⟨g,j * 3,none⟩) (.inl hg) _
 have hrow:((m.fn.l.set j {x with ty:=t}).map Fn.cells)=(m.fn.l.map Fn.cells).set j (x.cells.set 0 (.int .i64 t)):=by rw[List.map_set];rfl
 have hv:(⟨m.fn.l.set j {x with ty:=t},m.fn.A,m.fn.c⟩:SL Fn).v=m.fn.v:=by show Value.slice m.fn.A (m.fn.l.set j {x with ty:=t}).length m.fn.c=_;rw[List.length_set]
 have hO:DmO (Sp lo (w.setCell ⟨g,j * 3,none⟩ (.int .i64 t)) m.cu.v m.fn.v) (w.setCell ⟨g,j * 3,none⟩ (.int .i64 t)) m tl:=h.o.mv λhm hx=>hx.sp hm hkx (λb hb=>.inr (.inr hb)) (λ_ _ e=>e) (λ_ _ e=>e)
 refine⟨k1,k2,?_,h.cu.kxo hkx (λq hq e=>h.dj q hq e),?_,λq hq e=>?_,h.cl,?_,?_⟩
 ·
  show DmO (Sp lo (w.setCell ⟨g,j * 3,none⟩ (.int .i64 t)) m.cu.v (⟨m.fn.l.set j {x with ty:=t},m.fn.A,m.fn.c⟩:SL Fn).v) _ _ tl
  rw[hv]
  refine⟨hO.ty,hO.im,hO.ta,hO.me,hO.gl,hO.ex,hO.st,hO.el,hO.da,hO.cu,λy hy=>?_,hO.tl⟩
  rcases List.mem_or_eq_of_mem_set hy with h1|h1
  ·exact hO.fn y h1
  ·
   subst h1
   have:=hO.fn x (zu hx)
   exact λw2 ha=>⟨ht,(this w2 ha).lo,(this w2 ha).bo⟩
 ·
  show OwnK lo _ _ 55 3 (⟨m.fn.l.set j {x with ty:=t},m.fn.A,m.fn.c⟩:SL Fn).v ((m.fn.l.set j {x with ty:=t}).map Fn.cells)
  rw[hv,hrow]
  have:=k3.self
  rw[zd,<-hA]at this
  exact this
 ·
  have e:(⟨m.fn.l.set j {x with ty:=t},m.fn.A,m.fn.c⟩:SL Fn).v.ownBlock=some q:=e
  rw[hv]at e
  exact h.dj q hq e
 ·
  show(m.fn.l.set j {x with ty:=t}).length<=64
  rw[List.length_set]
  exact h.fl
 ·
  rw[<-h.key]
  unfold kD
  have e:(m.fn.l.set j {x with ty:=t}).map kCo=m.fn.l.map kCo:=by
   rw[List.map_set]
   have h1:(m.fn.l.map kCo)[j]? =some (kCo {x with ty:=t}):=by rw[zr,hx];rfl
   apply List.ext_getElem?
   intro i
   by_cases hi:i=j
   ·
    subst hi
    rw[List.getElem?_set_self (by have:=(List.getElem?_eq_some_iff.1 h1).1;exact this),h1]
   ·rw[List.getElem?_set_ne (by omega)]
  rw[e]
theorem DmP.fin{lo lo':Nat}{w:World}{d:Bin.Dm}{m:Mo}{tl:IL}(h:DmP lo w d m tl)(hl:lo'<=lo):FrK (λw B m=>Mo.ok w B m) (Win lo' w) w m:=by
 have hsub:∀b,Sp lo w m.cu.v m.fn.v b->Win lo' w b:=λb hb=>⟨by have:=hb.1;omega,hb.2.1⟩
 intro w2 ha
 have hS:=ha.sub hsub
 obtain⟨Af,cf,ef,f1,f2,f3⟩:=h.fn.self.fr (by decide)
 obtain⟨Ac,cc,ec,c1,c2,c3⟩:=h.cu.self.fr (by decide)
 injection ef with ef1 _ ef2
 injection ec with ec1 _ ec2
 have hw:∀b,Win lo w b->Win lo' w b:=λb hb=>⟨by have:=hb.1;omega,hb.2⟩
 refine⟨h.o.ty w2 hS,h.o.im w2 hS,⟨by rw[ef2];exact f1,by rw[ef2];exact f2,?_,by rw[ef1];exact f3 w2 (ha.sub hw),λa ha2=>h.o.fn a ha2 w2 hS⟩,h.o.ta w2 hS,h.o.me w2 hS,h.o.gl w2 hS,h.o.ex w2 hS,h.o.st,h.o.el w2 hS,h.o.da w2 hS,⟨by rw[ec2];exact c1,by rw[ec2];exact c2,?_,by rw[ec1];exact c3 w2 (ha.sub hw),λa ha2=>h.o.cu a ha2 w2 hS⟩⟩
 ·
  have:=h.fl
  unfold RB
  omega
 ·
  have:=h.cl
  unfold RB
  omega
end Go.Proofs.YteoijlfipmaoeaaGreatDoor
namespace Go.Proofs.YteoijlfipmaoeaaGreatDoor
open Go.RowKit Trx
open Go.Proofs.Tryz
def mo0:Mo:=⟨⟨[],none,0⟩,⟨[],none,0⟩,⟨[],none,0⟩,⟨[],none,0⟩,⟨[],none,0⟩,⟨[],none,0⟩,⟨[],none,0⟩,0,⟨[],none,0⟩,⟨[],none,0⟩,⟨[],none,0⟩⟩
def mo1:Mo:={mo0 with st:= -1}
@[reducible] def zcs(st:Int):Array Value:=#[.slice none 0 0,.slice none 0 0,.slice none 0 0,.slice none 0 0,.slice none 0 0,.slice none 0 0,.slice none 0 0,.int .i64 st,.slice none 0 0,.slice none 0 0,.slice none 0 0]
theorem sl_nil{α:Type}{cells:α->List Value}{ok:World->Nat->α->Prop}{k y:Nat}{w:World}{B:Nat}:SL.ok cells ok k y w B ⟨[],none,0⟩:=⟨zq _,qw _,by simp,RowsAt.nil_,by simp⟩
theorem DmP.start(w:World):DmP w.heap.size w Bin.d0 mo1 ⟨[],none,0⟩:=
 ⟨⟨λ_ _=>sl_nil,λ_ _=>sl_nil,λ_ _=>sl_nil,λ_ _=>sl_nil,λ_ _=>sl_nil,λ_ _=>sl_nil,⟨by show(-9223372036854775808:Int)<= -1;decide,by show(-1:Int)<=9223372036854775807;decide⟩,λ_ _=>sl_nil,λ_ _=>sl_nil,by simp[mo1,mo0],by simp[mo1,mo0],λ_ _=>⟨zq _,qw _,by simp,by simp,Sl.nil_⟩⟩,
  OwnK.nil_ _ _ _ _ (zx _ _) (zq _),OwnK.nil_ _ _ _ _ (zx _ _) (zq _),by rintro g ⟨⟩,by simp[mo1,mo0],by simp[mo1,mo0],rfl⟩
def DecP(r:Option Bin.Dm)(w:World):Ending->World->Prop:=λe w'=>Below w.heap.size w w'/\match r with
 |none=>∃v,e=.returned (.tuple #[moV mo0,v])/\BadE v
 |some d=>∃m:Mo,e=.returned (.tuple #[moV m,.nilIface])/\keyM m=Bin.toK d/\FrK (λw B m=>Mo.ok w B m) (Win w.heap.size w') w' m
theorem step_end{bs:List UInt8}{d:Bin.Dm}{s:Sect.Pt}(hp:s.at_+s.bs.length<=bs.length):endAt (s.at_+s.bs.length) (((some s.at_).bind λq=>Bin.rdS s.id d (bs.take (s.at_+s.bs.length)) q).map (·.2))=(Bin.stepS bs d s).map (λ_=>s.at_+s.bs.length)/\
  ∀d',Bin.stepS bs d s=some d'->((some s.at_).bind λq=>Bin.rdS s.id d (bs.take (s.at_+s.bs.length)) q)=some (d',s.at_+s.bs.length):=by
 unfold Bin.stepS
 rw[Option.bind_some]
 cases Bin.rdS s.id d (bs.take (s.at_+s.bs.length)) s.at_ with
 |none=>exact⟨rfl,λd' e=>by cases e⟩
 |some x=>
  obtain⟨x1,x2⟩:=x
  dsimp only[endAt,Option.map_some]
  split
  ·
   rename_i e
   subst e
   exact⟨rfl,λd' e=>by injection e with e;rw[e]⟩
  ·exact⟨rfl,λd' e=>by cases e⟩
theorem runS_take{bs:List UInt8}{d0 d:Bin.Dm}{t:List Sect.Pt}{j:Nat}(h:Bin.runS bs d0 (t.take j)=some d)(hj:j<t.length):Bin.runS bs d0 (t.take (j+1))=Bin.stepS bs d t[j]/\(Bin.stepS bs d t[j]=none->Bin.runS bs d0 t=none):=by
 have e1:t.take (j+1)=t.take j++[t[j]]:=by rw[qs,zb hj];rfl
 have e2:t=t.take j++t[j]::t.drop (j+1):=by rw[List.getElem_cons_drop,jw]
 constructor
 ·
  rw[e1,Bin.runS_append,h]
  dsimp only
  rw[Bin.runS]
  cases Bin.stepS bs d t[j]<;>rfl
 ·
  intro hs
  rw[e2,Bin.runS_append,h]
  dsimp only
  rw[Bin.runS,hs]
def DecL(R Mb T lo:Nat)(w1 W4:World)(A:Option Addr)(c:Nat)(bs:List UInt8)(t:List Sect.Pt)(i:Value)(wr:World):Prop:=∃(j:Nat) (d:Bin.Dm) (m:Mo) (tl:IL) (p:Nat),i=.int .i64 (j:Int)/\j<=t.length/\Hid (Bin.runS bs Bin.d0 (t.take j)=some d)/\Rst R w1 wr A c bs (some p) p .nilIface/\Bk R wr Mb m.cells/\Bk R wr T [.slice tl.A tl.zs.length tl.c]/\DmP lo wr d m tl/\Kx (Mk3 R Mb T lo) W4 wr
def FinL(lo:Nat)(W5:World)(d:Bin.Dm)(m:Mo)(tl:IL)(i:Value)(wr:World):Prop:=∃(j:Nat) (fl:List Fn),i=.int .i64 (j:Int)/\j<=tl.zs.length/\fl.length=m.fn.l.length/\DmP lo wr d {m with fn:=⟨fl,m.fn.A,m.fn.c⟩} tl/\(∀(i:Nat) (x:Fn),fl[i]? =some x->i<j->tl.zs[i]? =some x.ty)/\Kx (λb=>lo<=b) W5 wr
theorem fin_key{m:Mo}{tl:IL}{d:Bin.Dm}{fl:List Fn}{A:Option Addr}{c:Nat}(hk:kD {m with fn:=⟨fl,A,c⟩} tl=d)(hl:fl.length=tl.zs.length)(ht:∀(i:Nat) (x:Fn),fl[i]? =some x->i<tl.zs.length->tl.zs[i]? =some x.ty):keyM {m with fn:=⟨fl,A,c⟩}=Bin.toK d:=by
 rw[<-hk]
 unfold keyM Bin.toK kD
 dsimp only
 have e:fl.map kFn=tl.zs.zip (fl.map kCo):=by
  apply List.ext_getElem
  ·simp[hl]
  ·
   intro i h1 h2
   rw[List.getElem_map,List.getElem_zip,List.getElem_map]
   have h3:i<fl.length:=by simpa using h1
   have h4:=ht i fl[i] (zb h3) (by omega)
   rw[zb (by omega)]at h4
   injection h4 with h4
   rw[h4]
   rfl
 rw[e]
section
variable{w:World}{A:Option Addr}{c:Nat}{bs:List UInt8}
theorem Decode_any(hN:Nam w)(hU:U8T w)(hE:Et w)(hs:Sl w w.heap.size A (u8s bs))(hc:bs.length<=c)(hm:c<=maxLen)(hL:bs.length<=100000000):
  Calls prog 12 #[.slice A bs.length c] w (DecP (Bin.decD bs) w):=by
 obtain⟨W0,hW0⟩:∃W0:World,W0=w.alloc (.cells (zcs 0) 32):=⟨_,rfl⟩
 have hB0:Below w.heap.size w W0:=by rw[hW0];exact(zx _ _).alloc (zq _) _
 have hz0:W0.heap.size=w.heap.size+1:=by rw[hW0];simp
 have HN0:Hid ((∀i,W0.cell? ⟨w.heap.size,i,none⟩=(zcs 0)[i]?)/\∀i,W0.frozen? ⟨w.heap.size,i,none⟩=false):=Lib.hid (by rw[hW0];exact⟨λi=>zv _ _ _ _ rfl,λi=>zw _ _ _ _ rfl⟩)
 have hs0:Sl W0 W0.heap.size A (u8s bs):=(hs.below hB0).more hB0.size
 have HS:=Lib.hid (Split_any A c bs W0 hs0 hc hm hL)
 obtain⟨D,hD⟩:∃D,Bin.decD bs=D:=⟨_,rfl⟩
 rw[hD]
 have HDc:=Lib.hid hD
 have HB0:=Lib.hid hB0
 have HSl:=Lib.hid hs0
 have HNm:=Lib.hid (hN.below hB0)
 have HU:=Lib.hid (hU.below hB0)
 have HEt:=Lib.hid (hE.below hB0)
 refine postL λP hP=>?_
 have HP:=Lib.hid hP
 clear hP hD hs hs0 hB0 hN hU hE
 obtain⟨sp,hsp⟩:∃sp,Sect.split bs=sp:=⟨_,rfl⟩
 rw[hsp]at HS
 unfold SplitR at HS
 go_enter func12,ntmps12
 go_wp2_with fail
 rw[<-hW0]
 clear hW0
 cases sp with
 |error er=>
  obtain⟨k,q⟩:=er
  have HD9:Hid (D=none):=Lib.hid (by rw[<-HDc.out];unfold Bin.decD;rw[hsp])
  clear hsp
  refine HS.out.mono ?_
  rintro e w1 ⟨v,rfl,⟨b,o,rfl,-,-⟩,hb1⟩
  have hn0:w.heap.size<W0.heap.size:=by omega
  have HZ:=Lib.hid (λi=>(hb1.cell (p:=⟨w.heap.size,i,none⟩) hn0).trans (HN0.out.1 i))
  have HZf:=Lib.hid (λi=>(hb1.frozen (p:=⟨w.heap.size,i,none⟩) hn0).trans (HN0.out.2 i))
  have z0:=HZ.out 0
  have f0:=HZf.out 0
  have z1:=HZ.out 1
  have f1:=HZf.out 1
  have z2:=HZ.out 2
  have f2:=HZf.out 2
  have z3:=HZ.out 3
  have f3:=HZf.out 3
  have z4:=HZ.out 4
  have f4:=HZf.out 4
  have z5:=HZ.out 5
  have f5:=HZf.out 5
  have z6:=HZ.out 6
  have f6:=HZf.out 6
  have z7:=HZ.out 7
  have f7:=HZf.out 7
  have z8:=HZ.out 8
  have f8:=HZf.out 8
  have z9:=HZ.out 9
  have f9:=HZf.out 9
  have z10:=HZ.out 10
  have f10:=HZf.out 10
  have HB1:=Lib.hid (HB0.out.trans (hb1.mono HB0.out.size))
  clear hb1
  go_wp2_with fail
  refine bodyPost_ret (v:=.tuple #[moV mo0,.iface 115 (.pointer (some ⟨b,o,none⟩))]) (by simp[results,results12,go_sem,mo0,moV,z0,z1,z2,z3,z4,z5,z6,z7,z8,z9,z10]) rfl ?_
  rw[<-HP.out,HD9.out]
  exact⟨(((((((((((HB1.out.setCell (p:=⟨w.heap.size,0,none⟩) (zq _) _).setCell (p:=⟨w.heap.size,1,none⟩) (zq _) _).setCell (p:=⟨w.heap.size,2,none⟩) (zq _) _).setCell (p:=⟨w.heap.size,3,none⟩) (zq _) _).setCell (p:=⟨w.heap.size,4,none⟩) (zq _) _).setCell (p:=⟨w.heap.size,5,none⟩) (zq _) _).setCell (p:=⟨w.heap.size,6,none⟩) (zq _) _).setCell (p:=⟨w.heap.size,7,none⟩) (zq _) _).setCell (p:=⟨w.heap.size,8,none⟩) (zq _) _).setCell (p:=⟨w.heap.size,9,none⟩) (zq _) _).setCell (p:=⟨w.heap.size,10,none⟩) (zq _) _),_,rfl,b,o,rfl⟩
 |ok t=>
  dsimp only at HS
  refine HS.out.mono ?_
  rintro e w1 ⟨A',l,cl,rfl,htr,hlc,hcm,hns,hb1⟩
  have hl128:l.length<=128:=by
   have h1:=(Sect.split_ok bs t hsp).2.2.1
   have h2:l.length=t.length:=by simpa using congrArg List.length htr
   omega
  have hlt:l.length=t.length:=by simpa using congrArg List.length htr
  have HRi:=Lib.hid (λx hx=>rise_all _ 0 (Int.le_refl _) (Sect.split_ok bs t hsp).2.1 x hx)
  have h8:8<=bs.length:=by
   have h1:=congrArg List.length (Sect.split_ok bs t hsp).1
   simp[Sect.magic]at h1
   omega
  have HPl:Hid (∀s∈t,Bin.Placed bs s):=Lib.hid (by
   have h1:=hsp
   unfold Sect.split at h1
   split at h1
   ·exact Bin.spl_placed _ bs _ 8 0 0 t (zq _) h8 rfl h1
   ·cases h1)
  have HDd:Hid (D=match Bin.runS bs Bin.d0 t with
   |none=>none
   |some d=>if d.ft.length=d.fn.length then some d else none):=Lib.hid (by rw[<-HDc.out];unfold Bin.decD;rw[hsp];rfl)
  clear hsp
  have hs1:=hb1.size
  obtain⟨R,hR⟩:∃n:Nat,n=w1.heap.size:=⟨_,rfl⟩
  obtain⟨W4,hW4⟩:∃W:World,W=(((w1.alloc (.cells #[.slice A bs.length c,.int .i64 0,.nilIface] 90)).alloc (.cells #[pR R] 88)).alloc (.cells (zcs (-1)) 32)).alloc (.cells #[.slice none 0 0] 52):=⟨_,rfl⟩
  have hz4:W4.heap.size=R+4:=by rw[hW4,hR];simp
  have hBw4:Below w1.heap.size w1 W4:=by rw[hW4];exact((((zx _ _).alloc (zq _) _).alloc (by simp) _).alloc (by simp;omega) _).alloc (by simp;omega) _
  have hRst:Rst R w1 W4 A c bs (some 0) 0 .nilIface:=by
   have e0:∀i,W4.cell? ⟨R,i,none⟩=(#[.slice A bs.length c,.int .i64 0,.nilIface]:Array Value)[i]?:=λi=>by
    rw[hW4,hR,jq _ _ _ (by simp;omega),jq _ _ _ (by simp;omega),jq _ _ _ (by simp),zv _ _ _ _ rfl]
   have f0:∀i,W4.frozen? ⟨R,i,none⟩=false:=λi=>by
    rw[hW4,hR,World.frozen?_alloc_past _ _ _ (by simp;omega),World.frozen?_alloc_past _ _ _ (by simp;omega),World.frozen?_alloc_past _ _ _ (by simp),zw _ _ _ _ rfl]
   exact⟨by omega,e0 0,e0 1,e0 2,f0,(HSl.out.below hb1).more hs1,hc,hm,qw _,hBw4,.inl ⟨rfl,rfl⟩⟩
  have hN0R:w.heap.size+1<=R:=by omega
  have hX:W4.cell? ⟨R+1,0,none⟩=some (pR R):=by
   rw[hW4,jq _ _ _ (by simp[hR]),jq _ _ _ (by simp[hR]),zv _ _ _ _ (by simp[hR])];rfl
  have hBm:Bk R W4 (R+2) mo1.cells:=by
   rw[hW4]
   exact(Bk.new (by simp[hR];omega) (zcs (-1)) 32 _ (by simp[hR]) rfl).alloc _
  have hBt:Bk R W4 (R+3) [.slice none 0 0]:=by
   rw[hW4]
   exact Bk.new (by simp[hR];omega) #[.slice none 0 0] 52 _ (by simp[hR]) rfl
  have hBn:Bk R W4 w.heap.size (zcs 0).toList:=by
   have hn0:w.heap.size<W0.heap.size:=by omega
   have hn1:w.heap.size<w1.heap.size:=by omega
   refine⟨λi x hi=>?_,λi=>?_,by omega,by omega⟩
   ·
    rw[hBw4.cell (p:=⟨w.heap.size,i,none⟩) hn1,hb1.cell (p:=⟨w.heap.size,i,none⟩) hn0,HN0.out.1 i]
    simpa using hi
   ·rw[hBw4.frozen (p:=⟨w.heap.size,i,none⟩) hn1,hb1.frozen (p:=⟨w.heap.size,i,none⟩) hn0,HN0.out.2 i]
  have HB4:=Lib.hid (HB0.out.trans ((hb1.trans (hBw4.mono hs1)).mono HB0.out.size))
  have HBn:=Lib.hid hBn
  have HX4:=Lib.hid hX
  have HNm1:=Lib.hid (HNm.out.below (hb1.mono (zq _)))
  have HU1:=Lib.hid (HU.out.below (hb1.mono (zq _)))
  have HEt1:=Lib.hid (HEt.out.below (hb1.mono (zq _)))
  have HNs:=Lib.hid hns
  have HTr:=Lib.hid htr
  clear hb1 hBw4 hBn hX hns htr HS
  go_wp2_with fail
  rw[<-hR,<-hW4]
  have HR1:=Lib.hid hR
  have HZ4:=Lib.hid hz4
  clear hW4 hR
  go_loopw [28] (λi wr=>DecL R (R+2) (R+3) (R+4) w1 W4 A c bs t i wr) (λi _=>t.length-(intOf i).toNat)
  case atStart=>exact⟨0,Bin.d0,mo1,⟨[],none,0⟩,0,rfl,by omega,Lib.hid rfl,hRst,hBm,hBt,by rw[<-hz4];exact DmP.start W4,Kx.refl_⟩
  case round=>
   obtain⟨j,d,m,tl,p,rfl,hj,hrun,hr,hbm,hbt,hdm,hkx⟩:=hrel
   have hRr:R<wr.heap.size:=hr.lt
   have hxr:wr.cell? ⟨R+1,0,none⟩=some (pR R):=hkx.cell (by rintro(e|e|e|e)<;>omega) HX4.out
   have hxl:R+1<wr.heap.size:=zn _ _ hxr
   have HJ:=Lib.hid hr
   have HBj:=Lib.hid hbm
   have HTj:=Lib.hid hbt
   have HDj:=Lib.hid hdm
   have HKj:=Lib.hid hkx
   clear hRst hBm hBt
   by_cases hlt':j<l.length
   ·
    have hjt:j<t.length:=by omega
    have hlti:(j:Int)<l.length:=by omega
    have htj:(l[j]).tr=ptr t[j]:=by
     have h1:(l.map Sc.tr)[j]? =(t.map ptr)[j]?:=by rw[HTr.out]
     rw[zr,zr,zb hlt',zb hjt]at h1
     simpa using h1
    obtain⟨pt,hpt⟩:∃pt,t[j]=pt:=⟨_,rfl⟩
    obtain⟨s,hse⟩:∃s,l[j]=s:=⟨_,rfl⟩
    rw[hpt,hse]at htj
    have hS1:SecsAt wr w1.heap.size A' l:=(HNs.out w1 (λ_ _ _=>rfl)).below hr.bel
    obtain⟨b,o,rfl,hbl,q0,q1,q2,hok⟩:=hS1.at_ hlt'
    rw[hse]at q0 q1 q2 hok
    have hpl:=HPl.out _ (jf hjt)
    have hid:=HRi.out _ (List.mem_map.2 ⟨_,jf hjt,rfl⟩)
    have hrt:=runS_take hrun.out hjt
    rw[hpt]at hpl hid hrt
    have HRt:=Lib.hid hrt
    obtain⟨sid,sat,sA,sc,sbs⟩:=s
    obtain⟨pid,pat,pbs⟩:=pt
    simp only[Sc.tr,ptr,Prod.mk.injEq]at htj
    obtain⟨rfl,rfl,rfl⟩:=htj
    dsimp only at q0 q1 q2 hid
    obtain⟨hid0,hid11⟩:=hid
    have hpn:pat+sbs.length<=bs.length:=hpl.1
    have hat:pat<=bs.length:=by omega
    have hbr:b<wr.heap.size:=zj hbl hr.bel.size
    have c1:=hr.c1
    have f1:=hr.fr 1
    obtain⟨W5,hW5⟩:∃W:World,W=(wr.setCell ⟨R,1,none⟩ (.int .i64 (pat:Int))).alloc (.cells #[.int .i64 sid,.int .i64 (pat:Int),.slice sA sbs.length sc] 82):=⟨_,rfl⟩
    have H5:Hid (Rst R w1 W5 A c bs (some pat) pat .nilIface):=Lib.hid (by rw[hW5];exact(hr.setAt hat).alloc _)
    have HB5:Hid (Bk R W5 (R+2) m.cells):=Lib.hid (by rw[hW5];exact(hbm.setOther (by omega) 1 _).alloc _)
    have HT5:Hid (Bk R W5 (R+3) [.slice tl.A tl.zs.length tl.c]):=Lib.hid (by rw[hW5];exact(hbt.setOther (by omega) 1 _).alloc _)
    have hkr:Kx (Only R) wr W5:=by rw[hW5];exact((Kx.refl_ (M:=Only R)).setCell (p:=⟨R,1,none⟩) (.inl rfl) _).alloc _
    have HD5:Hid (DmP (R+4) W5 d m tl):=Lib.hid (hdm.kx hkr (by rintro b rfl;omega))
    have HX5:Hid (W5.cell? ⟨R+1,0,none⟩=some (pR R)):=Lib.hid (hkr.cell (by show¬R+1=R;omega) hxr)
    have HK5:Hid (Kx (Mk3 R (R+2) (R+3) (R+4)) W4 W5):=Lib.hid (hkx.trans (hkr.mono λb hb=>.inl hb))
    have HS5:Hid (W5.cell? ⟨wr.heap.size,0,none⟩=some (.int .i64 sid)):=Lib.hid (by rw[hW5,zv _ _ _ _ (by simp[World.setCell])];rfl)
    have hsne:wr.heap.size≠R:=by omega
    obtain⟨res',hres'⟩:∃r,((some pat).bind λq=>Bin.rdS sid d (bs.take (pat+sbs.length)) q)=r:=⟨_,rfl⟩
    have HC:=Lib.hid (rpart_any sbs.length 30 (λ_ _=>rfl) #[.pointer (some ⟨wr.heap.size,0,none⟩),.pointer (some ⟨R+1,0,none⟩),.pointer (some ⟨R+3,0,none⟩),.pointer (some ⟨R+2,0,none⟩)] (DcQ R (R+2) (R+3) (R+4) W5 res') H5.out hpn (λw' h' hk'=>
     (c_dec1 (X:=R+1) (Mb:=R+2) (T:=R+3) (lo:=R+4) HNm1.out HU1.out HEt1.out h' (by rw[qh];omega) (hk'.cell (show¬wr.heap.size=R from hsne) HS5.out) (hk'.cell (by show¬R+1=R;omega) HX5.out) (by omega) (HB5.out.kx hk') (HT5.out.kx hk') (HD5.out.kx hk' (by rintro b rfl;omega)) (by omega) (by omega) (by omega) (by omega) (by have:=HR1.out;omega) (by have:=HR1.out;omega) hid0 hid11).mono λe w2 hx=>by
      obtain⟨e1,st',p',er',g1,g2⟩:=hx
      rw[hres']at g2
      exact⟨e1,st',p',er',g1,g2.1,(hk'.mono λb hb=>.inl hb).trans g2.2.1,g2.2.2⟩))
    have HRes:=Lib.hid hres'
    clear hr hbm hbt hdm hkx hres' hkr hok hS1 hpl hrt hse hpt
    go_wp2_with fail
    rw[<-hW5]
    clear hW5 q0 q1 q2 c1 f1 hxr
    refine HC.out.mono ?_
    rintro e w3 ⟨rfl,w2,st2,p2,er2,p3,er3,h2,⟨rfl,hk2,hv2⟩,h3,hk3⟩
    obtain⟨g1,g2⟩:=step_end (d:=d) (s:=⟨sid,pat,sbs⟩) hpn
    dsimp only at g1 g2
    rw[HRes.out]at g1 g2
    rw[g1]at h3
    have HK3:Hid (Kx (Mk3 R (R+2) (R+3) (R+4)) W4 w3):=Lib.hid ((HK5.out.trans hk2).trans (hk3.mono λb hb=>.inl hb))
    have x3:w3.cell? ⟨R+1,0,none⟩=some (pR R):=HK3.out.cell (by rintro(e|e|e|e)<;>omega) HX4.out
    cases hst:Bin.stepS bs d ⟨sid,pat,sbs⟩with
    |none=>
     rw[hst]at h3
     obtain⟨hx,-⟩|⟨-,b9,o9,rfl⟩:=h3.lk
     ·cases hx
     have HDn:Hid (D=none):=Lib.hid (by rw[HDd.out,HRt.out.2 hst])
     have y2:=h3.c2
     have HBn3:=Lib.hid (HBn.out.kxm HK3.out (by rintro(e|e|e|e)<;>omega))
     have hnX:w.heap.size≠R+1:=by omega
     have hnR:w.heap.size≠R:=by omega
     have hXn:=Ne.symm hnX
     have hRn:=Ne.symm hnR
     have hbw:Below w.heap.size w w3:=HB4.out.trans (HK3.out.below (by have:=HZ4.out;omega) (λb hb=>by rcases hb with e|e|e|e<;>omega))
     have HBw:=Lib.hid hbw
     clear hk2 hk3 hv2 h2 h3 g1 g2 hbw
     go_wp2_with fail
     refine wp_region_held_drew (S:=λw'=>w'.cell? ⟨R+1,0,none⟩=some (pR R)/\w'.cell? ⟨R,2,none⟩=some (.iface 115 (.pointer (some ⟨b9,o9,none⟩)))) (by kernel_rfl) ⟨x3,y2⟩ (λhHeld=>?_)
     obtain⟨W6,hW6⟩:∃W:World,W=w3.drew:=⟨_,rfl⟩
     have HBn6:Hid (Bk R W6 w.heap.size (zcs 0).toList):=Lib.hid (by rw[hW6];exact HBn3.out.kx (Kx.refl_.drewN 1))
     have HBw6:Hid (Below w.heap.size w W6):=Lib.hid (by rw[hW6];exact below_drewN HBw.out 1)
     rw[<-hW6]at hHeld⊢
     have x6:W6.cell? ⟨R+1,0,none⟩=some (pR R):=by rw[hW6];exact x3
     have y6:W6.cell? ⟨R,2,none⟩=some (.iface 115 (.pointer (some ⟨b9,o9,none⟩))):=by rw[hW6];exact y2
     clear hW6 x3 y2
     have z0:=HBn6.out.cell 0 _ rfl
     have f0:=HBn6.out.fr 0
     have z1:=HBn6.out.cell 1 _ rfl
     have f1:=HBn6.out.fr 1
     have z2:=HBn6.out.cell 2 _ rfl
     have f2:=HBn6.out.fr 2
     have z3:=HBn6.out.cell 3 _ rfl
     have f3:=HBn6.out.fr 3
     have z4:=HBn6.out.cell 4 _ rfl
     have f4:=HBn6.out.fr 4
     have z5:=HBn6.out.cell 5 _ rfl
     have f5:=HBn6.out.fr 5
     have z6:=HBn6.out.cell 6 _ rfl
     have f6:=HBn6.out.fr 6
     have z7:=HBn6.out.cell 7 _ rfl
     have f7:=HBn6.out.fr 7
     have z8:=HBn6.out.cell 8 _ rfl
     have f8:=HBn6.out.fr 8
     have z9:=HBn6.out.cell 9 _ rfl
     have f9:=HBn6.out.fr 9
     have z10:=HBn6.out.cell 10 _ rfl
     have f10:=HBn6.out.fr 10
     refine rtk 0 48 ?_
     refine rtk 1 49 ?_
     refine rtk 2 50 ?_
     refine rtk 3 51 ?_
     refine rtk 4 52 ?_
     refine rcl 5 λK hK=>?_
     go_simp
     refine rbk hK ⟨by simp[zk,hnX,hXn];exact x6,by simp[zk,hnR,hRn];exact y6⟩ λhHeld=>?_;clear hK K
     refine rtk 6 3 ?_
     refine wpAnyH_done (by kernel_rfl) ?_ _
     clear hHeld
     go_wp2_with fail
     refine bodyPost_ret (v:=.tuple #[moV mo0,.iface 115 (.pointer (some ⟨b9,o9,none⟩))]) (by simp[results,results12,go_sem,mo0,moV,z0,z1,z2,z3,z4,z5,z6,z7,z8,z9,z10]) rfl ?_
     rw[<-HP.out,HDn.out]
     exact⟨(((((((((((HBw6.out.setCell (p:=⟨w.heap.size,0,none⟩) (zq _) _).setCell (p:=⟨w.heap.size,1,none⟩) (zq _) _).setCell (p:=⟨w.heap.size,2,none⟩) (zq _) _).setCell (p:=⟨w.heap.size,3,none⟩) (zq _) _).setCell (p:=⟨w.heap.size,4,none⟩) (zq _) _).setCell (p:=⟨w.heap.size,5,none⟩) (zq _) _).setCell (p:=⟨w.heap.size,6,none⟩) (zq _) _).setCell (p:=⟨w.heap.size,7,none⟩) (zq _) _).setCell (p:=⟨w.heap.size,8,none⟩) (zq _) _).setCell (p:=⟨w.heap.size,9,none⟩) (zq _) _).setCell (p:=⟨w.heap.size,10,none⟩) (zq _) _),_,rfl,b9,o9,rfl⟩
    |some d2=>
     rw[hst]at h3
     obtain⟨hx,rfl⟩|⟨hx,-⟩:=h3.lk
     case inr=>cases hx
     have hx2:pat+sbs.length=p3:=by injection hx
     obtain⟨m2,tl2,k1,k2,k3⟩:=hv2 d2 _ (g2 d2 hst)
     have y2:=h3.c2
     have H3:Hid (Rst R w1 w3 A c bs (some p3) p3 .nilIface):=Lib.hid (by rw[<-hx2]at h3⊢;exact h3)
     have HBm3:=Lib.hid (k1.kx hk3)
     have HBt3:=Lib.hid (k2.kx hk3)
     have HD3:=Lib.hid (k3.kx hk3 (by rintro b rfl;omega))
     have HSt:=Lib.hid hst
     clear hk2 hk3 hv2 h2 h3 g1 g2 k1 k2 k3 hx hx2 hst
     go_wp2_with fail
     go_roundw
     case rel=>exact⟨j+1,d2,m2,tl2,p3,by go_num,by omega,Lib.hid (by rw[HRt.out.1];exact HSt.out),H3.out,HBm3.out,HBt3.out,HD3.out,HK3.out⟩
     case measure=>simp[intOf];omega
   ·
    have hjl:¬(j:Int)<l.length:=by omega
    have hjt:j=t.length:=by omega
    have hru:=hrun.out
    rw[hjt,xo]at hru
    have HDv:Hid (D=if tl.zs.length=m.fn.l.length then some d else none):=Lib.hid (by
     have h1:d.ft=tl.zs:=by rw[<-HDj.out.key];rfl
     have h2:d.fn.length=m.fn.l.length:=by rw[<-HDj.out.key];simp[kD]
     rw[HDd.out,hru]
     dsimp only
     rw[h1,h2])
    have hnX:w.heap.size≠R+2:=by omega
    have hnT:w.heap.size≠R+3:=by omega
    have hXn:=Ne.symm hnX
    have hml:R+2<wr.heap.size:=HBj.out.lt
    have htl:R+3<wr.heap.size:=HTj.out.lt
    have hfl64:=HDj.out.fl
    have t0:=HTj.out.cell 0 _ rfl
    have m2:=HBj.out.cell 2 _ rfl
    have HBn3:=Lib.hid (HBn.out.kxm HKj.out (by rintro(e|e|e|e)<;>omega))
    have HBw:Hid (Below w.heap.size w wr):=Lib.hid (HB4.out.trans (HKj.out.below (by have:=HZ4.out;omega) (λb hb=>by rcases hb with e|e|e|e<;>omega)))
    by_cases hft:tl.zs.length=m.fn.l.length
    ·
     have q1:((tl.zs.length:Int)==(m.fn.l.length:Int))=true:=by simp;omega
     rw[if_pos hft]at HDv
     obtain⟨zs,tA,tc⟩:=tl
     dsimp only at t0 q1 hft
     clear hr hbm hbt hdm hkx hrun hru
     go_wp2_with fail
     go_loopw [66,11,12] (λi a b w5=>FinL (R+4) wr d m ⟨zs,tA,tc⟩ i w5) (λi _ _ _=>zs.length-(intOf i).toNat)
     case atStart=>exact⟨0,m.fn.l,rfl,by omega,rfl,HDj.out,λi x _ h=>absurd h (by omega),Kx.refl_⟩
     case round=>
      obtain⟨j2,fl,rfl,hj2,hfl,hdm2,hty,hk5⟩:=hrel
      dsimp only at hj2
      by_cases hlt2:j2<zs.length
      ·
       have hlti:(j2:Int)<zs.length:=by omega
       have hil:=hdm2.o.tl _ (λ_ _ _=>rfl)
       obtain⟨b,o,hA,hb,hcell⟩:=hil.sl (by intro e;have h9:(n64s zs).length=0:=(by rw[show n64s zs=[]from e];rfl);rw[show(n64s zs).length=zs.length from(by simp[n64s])]at h9;omega)
       dsimp only at hA
       subst hA
       have q:=hcell j2 (by simpa using hlt2)
       have hzg:(n64s zs)[j2]? =some (.int .i64 zs[j2]):=by simp[n64s,hlt2]
       rw[hzg]at q
       obtain⟨z,hz⟩:∃z,zs[j2]=z:=⟨_,rfl⟩
       have hzI:=hil.inI zs[j2] (jf hlt2)
       rw[hz]at q hzI
       have hzq:zs[j2]? =some z:=by rw[zb hlt2,hz]
       have hx2:j2<fl.length:=by omega
       obtain⟨x,hx⟩:∃x,fl[j2]? =some x:=⟨_,zb hx2⟩
       obtain⟨Af,cf,ef,-,-,hff⟩:=hdm2.fn.formB (by decide)
       obtain⟨g,hg1,hg2,hg3,hg4,-⟩:=hff (by intro e;have h9:(fl.map Fn.cells).length=0:=(by rw[show fl.map Fn.cells=[]from e];rfl);rw[zd]at h9;omega)
       injection ef with ef1 _ _
       have hAf:m.fn.A=some ⟨g,0,none⟩:=ef1.trans hg2
       obtain⟨k1,k2,k3⟩:=hdm2.setTy hAf hx z hzI
       have mm:wr.cell? ⟨R+2,2,none⟩=some (.slice (some ⟨g,0,none⟩) m.fn.l.length m.fn.c):=by
        have:=hk5.cell (b:=R+2) (o:=2) (by show¬R+4<=R+2;omega) m2
        rw[this]
        show some (Value.slice m.fn.A m.fn.l.length m.fn.c)=_
        rw[hAf]
       have HK3:=Lib.hid k3
       have HTy:=Lib.hid hty
       have HK5:=Lib.hid hk5
       have HFl:=Lib.hid hfl
       have hj9:j2<m.fn.l.length:=by omega
       clear hdm2 hil hcell hty hk5 hfl ef1 hff k3 hg1 hg2 hAf hzg
       go_wp2_with fail
       go_roundw
       case rel=>
        refine⟨j2+1,fl.set j2 {x with ty:=z},by go_num,by show j2+1<=zs.length;omega,by rw[List.length_set];exact HFl.out,HK3.out,λi y hy hi=>?_,HK5.out.setCell (p:=⟨g,j2 * 3,none⟩) (.inl hg3) _⟩
        by_cases hij:i=j2
        ·
         subst hij
         rw[List.getElem?_set_self hx2]at hy
         injection hy with hy
         subst hy
         exact hzq
        ·
         rw[List.getElem?_set_ne (by omega)]at hy
         exact HTy.out i y hy (by omega)
       case measure=>simp[intOf];omega
      ·
       have hlti:¬(j2:Int)<zs.length:=by omega
       have HBm5:=Lib.hid (HBj.out.kxm hk5 (by show¬R+4<=R+2;omega))
       have HBn5:=Lib.hid (HBn3.out.kxm hk5 (by show¬R+4<=w.heap.size;omega))
       have HD5:=Lib.hid hdm2
       have HFl:=Lib.hid hfl
       have HTy:=Lib.hid hty
       have HBw5:=Lib.hid (HBw.out.trans (hk5.below (by have:=HBw.out.size;exact this) (λb hb=>by have hb:R+4<=b:=hb;omega)))
       have z0:=HBn5.out.cell 0 _ rfl
       have f0:=HBn5.out.fr 0
       have z1:=HBn5.out.cell 1 _ rfl
       have f1:=HBn5.out.fr 1
       have z2:=HBn5.out.cell 2 _ rfl
       have f2:=HBn5.out.fr 2
       have z3:=HBn5.out.cell 3 _ rfl
       have f3:=HBn5.out.fr 3
       have z4:=HBn5.out.cell 4 _ rfl
       have f4:=HBn5.out.fr 4
       have z5:=HBn5.out.cell 5 _ rfl
       have f5:=HBn5.out.fr 5
       have z6:=HBn5.out.cell 6 _ rfl
       have f6:=HBn5.out.fr 6
       have z7:=HBn5.out.cell 7 _ rfl
       have f7:=HBn5.out.fr 7
       have z8:=HBn5.out.cell 8 _ rfl
       have f8:=HBn5.out.fr 8
       have z9:=HBn5.out.cell 9 _ rfl
       have f9:=HBn5.out.fr 9
       have z10:=HBn5.out.cell 10 _ rfl
       have f10:=HBn5.out.fr 10
       have y0:=HBm5.out.cell 0 _ rfl
       have y1:=HBm5.out.cell 1 _ rfl
       have y2:=HBm5.out.cell 2 _ rfl
       have y3:=HBm5.out.cell 3 _ rfl
       have y4:=HBm5.out.cell 4 _ rfl
       have y5:=HBm5.out.cell 5 _ rfl
       have y6:=HBm5.out.cell 6 _ rfl
       have y7:=HBm5.out.cell 7 _ rfl
       have y8:=HBm5.out.cell 8 _ rfl
       have y9:=HBm5.out.cell 9 _ rfl
       have y10:=HBm5.out.cell 10 _ rfl
       clear hdm2 hfl hty hk5
       go_wp2_with fail
       refine bodyPost_ret (v:=.tuple #[moV m,.nilIface]) (by simp[results,results12,go_sem,moV,z0,z1,z2,z3,z4,z5,z6,z7,z8,z9,z10,y0,y1,y2,y3,y4,y5,y6,y7,y8,y9,y10]) rfl ?_
       rw[<-HP.out,HDv.out]
       have hmv:moV m=moV {m with fn:=⟨fl,m.fn.A,m.fn.c⟩}:=by unfold moV;dsimp only;rw[HFl.out]
       refine⟨(((((((((((HBw5.out.setCell (p:=⟨w.heap.size,0,none⟩) (zq _) _).setCell (p:=⟨w.heap.size,1,none⟩) (zq _) _).setCell (p:=⟨w.heap.size,2,none⟩) (zq _) _).setCell (p:=⟨w.heap.size,3,none⟩) (zq _) _).setCell (p:=⟨w.heap.size,4,none⟩) (zq _) _).setCell (p:=⟨w.heap.size,5,none⟩) (zq _) _).setCell (p:=⟨w.heap.size,6,none⟩) (zq _) _).setCell (p:=⟨w.heap.size,7,none⟩) (zq _) _).setCell (p:=⟨w.heap.size,8,none⟩) (zq _) _).setCell (p:=⟨w.heap.size,9,none⟩) (zq _) _).setCell (p:=⟨w.heap.size,10,none⟩) (zq _) _),{m with fn:=⟨fl,m.fn.A,m.fn.c⟩},by rw[hmv],fin_key HD5.out.key (by rw[HFl.out];exact hft.symm) (λi x hx hi=>HTy.out i x hx (by have hi:i<zs.length:=hi;omega)),?_⟩
       exact(HD5.out.fin (lo':=R) (by omega)).kxm (M:=Only w.heap.size) (λ_ _ _ _ h hB=>h.keep hB (λ_ _ _=>rfl)) ((((((((((((Kx.refl_ (M:=Only w.heap.size)).setCell (p:=⟨w.heap.size,0,none⟩) (.inl rfl) _).setCell (p:=⟨w.heap.size,1,none⟩) (.inl rfl) _).setCell (p:=⟨w.heap.size,2,none⟩) (.inl rfl) _).setCell (p:=⟨w.heap.size,3,none⟩) (.inl rfl) _).setCell (p:=⟨w.heap.size,4,none⟩) (.inl rfl) _).setCell (p:=⟨w.heap.size,5,none⟩) (.inl rfl) _).setCell (p:=⟨w.heap.size,6,none⟩) (.inl rfl) _).setCell (p:=⟨w.heap.size,7,none⟩) (.inl rfl) _).setCell (p:=⟨w.heap.size,8,none⟩) (.inl rfl) _).setCell (p:=⟨w.heap.size,9,none⟩) (.inl rfl) _).setCell (p:=⟨w.heap.size,10,none⟩) (.inl rfl) _) (λb hb=>⟨hb.2,by have:=hb.1;intro e;have e:b=w.heap.size:=e;omega⟩) (λb hb=>⟨by have:=hb.1;omega,by have:=hb.2;simp[World.setCell];omega⟩)
    ·
     have q1:((tl.zs.length:Int)==(m.fn.l.length:Int))=false:=by simp;omega
     rw[if_neg hft]at HDv
     go_wp2_with fail
     refine(bspot_any (bs.length:Int) 2 wr).mono ?_
     rintro e w3 ⟨b9,o9,rfl,hb3⟩
     have HBn9:=Lib.hid (HBn3.out.kxm (M:=λ_=>False) (Kx.of_below hb3) (λh=>h))
     have HB9:=Lib.hid (HBw.out.trans (hb3.mono HBw.out.size))
     have z0:=HBn9.out.cell 0 _ rfl
     have f0:=HBn9.out.fr 0
     have z1:=HBn9.out.cell 1 _ rfl
     have f1:=HBn9.out.fr 1
     have z2:=HBn9.out.cell 2 _ rfl
     have f2:=HBn9.out.fr 2
     have z3:=HBn9.out.cell 3 _ rfl
     have f3:=HBn9.out.fr 3
     have z4:=HBn9.out.cell 4 _ rfl
     have f4:=HBn9.out.fr 4
     have z5:=HBn9.out.cell 5 _ rfl
     have f5:=HBn9.out.fr 5
     have z6:=HBn9.out.cell 6 _ rfl
     have f6:=HBn9.out.fr 6
     have z7:=HBn9.out.cell 7 _ rfl
     have f7:=HBn9.out.fr 7
     have z8:=HBn9.out.cell 8 _ rfl
     have f8:=HBn9.out.fr 8
     have z9:=HBn9.out.cell 9 _ rfl
     have f9:=HBn9.out.fr 9
     have z10:=HBn9.out.cell 10 _ rfl
     have f10:=HBn9.out.fr 10
     clear hb3
     go_wp2_with fail
     refine bodyPost_ret (v:=.tuple #[moV mo0,.iface 115 (.pointer (some ⟨b9,o9,none⟩))]) (by simp[results,results12,go_sem,mo0,moV,z0,z1,z2,z3,z4,z5,z6,z7,z8,z9,z10]) rfl ?_
     rw[<-HP.out,HDv.out]
     exact⟨(((((((((((HB9.out.setCell (p:=⟨w.heap.size,0,none⟩) (zq _) _).setCell (p:=⟨w.heap.size,1,none⟩) (zq _) _).setCell (p:=⟨w.heap.size,2,none⟩) (zq _) _).setCell (p:=⟨w.heap.size,3,none⟩) (zq _) _).setCell (p:=⟨w.heap.size,4,none⟩) (zq _) _).setCell (p:=⟨w.heap.size,5,none⟩) (zq _) _).setCell (p:=⟨w.heap.size,6,none⟩) (zq _) _).setCell (p:=⟨w.heap.size,7,none⟩) (zq _) _).setCell (p:=⟨w.heap.size,8,none⟩) (zq _) _).setCell (p:=⟨w.heap.size,9,none⟩) (zq _) _).setCell (p:=⟨w.heap.size,10,none⟩) (zq _) _),_,rfl,b9,o9,rfl⟩
end
end Go.Proofs.YteoijlfipmaoeaaGreatDoor
namespace Go.Proofs.YteoijlfipmaoeaaGreatDoor
open Lib (hid)
open Go.RowKit Trx
open Go.Proofs.Tryz
structure MBox(w:World)(b:Nat)(m:Mo):Prop where
 lt:b<w.heap.size
 cell:∀(i:Nat) (x:Value),m.cells[i]? =some x->w.cell? ⟨b,i,none⟩=some x
 fr:∀i,w.frozen? ⟨b,i,none⟩=false
theorem MBox.new(w:World)(m:Mo)(cs:Array Value)(hcs:cs.toList=m.cells)(t:TypeId)(b:Nat)(hb:b=w.heap.size):MBox (w.alloc (.cells cs t)) b m:=by
 subst hb
 exact⟨by simp,λi x hi=>by rw[zv _ _ _ _ rfl,<-Array.getElem?_toList,hcs];exact hi,λi=>zw _ _ _ _ rfl⟩
theorem MBox.below{w w':World}{b:Nat}{m:Mo}(h:MBox w b m)(hb:Below w.heap.size w w'):MBox w' b m:=
 ⟨zj h.lt hb.size,λi x hi=>(hb.cell (p:=⟨b,i,none⟩) h.lt).trans (h.cell i x hi),λi=>(hb.frozen (p:=⟨b,i,none⟩) h.lt).trans (h.fr i)⟩
def encOk(m:Mo):Bool:=smallM m&&okB m
section
variable{m:Mo}{w:World}
theorem Encode_yes(hm:m.ok w w.heap.size)(hN:Nam w)(hT:U8T w)(hc:Cn m)(h:encOk m=true):Calls prog 9 #[moV m] w λe w'=>∃g c,e=.returned (.tuple #[.slice (some ⟨g,0,none⟩) (encM m).length c,.nilIface])/\(encM m).length<=c/\c<=maxLen/\Lies w w' g (encM m):=by
 unfold encOk at h
 rw[zp]at h
 have:=Encode_any m w hm hN hT hc
 unfold EncP EncQ at this
 rw[h.1,h.2]at this
 exact this
theorem Encode_no(hm:m.ok w w.heap.size)(hN:Nam w)(hT:U8T w)(hc:Cn m)(h:encOk m=false):Calls prog 9 #[moV m] w λe w'=>∃k:Int,e=.returned (.tuple #[.slice none 0 0,.iface 40 (.int .i64 k)])/\Below w.heap.size w w':=by
 unfold encOk at h
 have:=Encode_any m w hm hN hT hc
 unfold EncP at this
 cases h1:smallM m
 ·
  rw[h1]at this
  unfold EncQ at this
  exact this.mono λe w' hx=>⟨7,hx⟩
 ·
  rw[h1,Bool.true_and]at h
  rw[h1,h]at this
  unfold EncQ at this
  exact this.mono λe w' hx=>⟨1,hx⟩
theorem encOk_of(hm:m.ok w w.heap.size)(hc:Cn m)(h:encOk m=true):Bin.okD (Bin.ofK (keyM m))/\Bin.smD (Bin.ofK (keyM m))/\Bin.decD (encM m)=some (Bin.ofK (keyM m))/\(encM m).length<=90000000:=by
 unfold encOk at h
 rw[zp]at h
 have h1:=(okB_iff m).1 h.2
 have h2:=small_smD hm hc h.1
 have h3:=Bin.encD_len _ h2
 refine⟨h1,h2,Bin.dec_enc _ h1 h2 (by simp[Bin.ofK]) (by omega),h3⟩
theorem encOk_mk(h1:Bin.okD (Bin.ofK (keyM m)))(h2:Bin.smD (Bin.ofK (keyM m))):encOk m=true/\Cn m:=by
 have h3:=smD_small h2
 unfold encOk
 rw[h3.1,(okB_iff m).2 h1]
 exact⟨rfl,h3.2⟩
end
section
variable{w:World}{A:Option Addr}{c:Nat}{bs:List UInt8}
theorem Decode_bad{k q:Nat}(hsp:Sect.split bs=.error (k,q))(hs:Sl w w.heap.size A (u8s bs))(hc:bs.length<=c)(hm:c<=maxLen)(hL:bs.length<=100000000):
  Calls prog 12 #[.slice A bs.length c] w λe w'=>Below w.heap.size w w'/\∃v,e=.returned (.tuple #[moV mo0,v])/\SpotIs w' v q k:=by
 obtain⟨W0,hW0⟩:∃W0:World,W0=w.alloc (.cells (zcs 0) 32):=⟨_,rfl⟩
 have hB0:Below w.heap.size w W0:=by rw[hW0];exact(zx _ _).alloc (zq _) _
 have hz0:W0.heap.size=w.heap.size+1:=by rw[hW0];simp
 have HN0:Hid ((∀i,W0.cell? ⟨w.heap.size,i,none⟩=(zcs 0)[i]?)/\∀i,W0.frozen? ⟨w.heap.size,i,none⟩=false):=hid (by rw[hW0];exact⟨λi=>zv _ _ _ _ rfl,λi=>zw _ _ _ _ rfl⟩)
 have hs0:Sl W0 W0.heap.size A (u8s bs):=(hs.below hB0).more hB0.size
 have HS:=hid (Split_any A c bs W0 hs0 hc hm hL)
 have HB0:=hid hB0
 rw[hsp]at HS
 unfold SplitR at HS
 refine postL λP hP=>?_
 have HP:=hid hP
 clear hP hs hs0 hB0 hsp
 go_enter func12,ntmps12
 go_wp2_with fail
 rw[<-hW0]
 clear hW0
 refine HS.out.mono ?_
 rintro e w1 ⟨v,rfl,⟨b,o,rfl,hv1,hv2⟩,hb1⟩
 have hn0:w.heap.size<W0.heap.size:=by omega
 have HZ:=hid (λi=>(hb1.cell (p:=⟨w.heap.size,i,none⟩) hn0).trans (HN0.out.1 i))
 have HZf:=hid (λi=>(hb1.frozen (p:=⟨w.heap.size,i,none⟩) hn0).trans (HN0.out.2 i))
 have hne:b≠w.heap.size:=no_spotA (C:=zcs 0) HZ.out (by rfl) hv2
 have HV:=hid (⟨hv1,hv2⟩:w1.cell? ⟨b,o,none⟩=some (.int .i64 q)/\w1.cell? ⟨b,o+1,none⟩=some (.iface 40 (.int .i64 k)))
 have z0:=HZ.out 0
 have f0:=HZf.out 0
 have z1:=HZ.out 1
 have f1:=HZf.out 1
 have z2:=HZ.out 2
 have f2:=HZf.out 2
 have z3:=HZ.out 3
 have f3:=HZf.out 3
 have z4:=HZ.out 4
 have f4:=HZf.out 4
 have z5:=HZ.out 5
 have f5:=HZf.out 5
 have z6:=HZ.out 6
 have f6:=HZf.out 6
 have z7:=HZ.out 7
 have f7:=HZf.out 7
 have z8:=HZ.out 8
 have f8:=HZf.out 8
 have z9:=HZ.out 9
 have f9:=HZf.out 9
 have z10:=HZ.out 10
 have f10:=HZf.out 10
 have HB1:=hid (HB0.out.trans (hb1.mono HB0.out.size))
 clear hb1 hv1 hv2
 go_wp2_with fail
 refine bodyPost_ret (v:=.tuple #[moV mo0,.iface 115 (.pointer (some ⟨b,o,none⟩))]) (by simp[results,results12,go_sem,mo0,moV,z0,z1,z2,z3,z4,z5,z6,z7,z8,z9,z10]) rfl ?_
 rw[<-HP.out]
 have hkx:=((((((((((((Kx.refl_ (M:=Only w.heap.size) (w:=w1)).setCell (p:=⟨w.heap.size,0,none⟩) (.inl rfl) (.slice none 0 0)).setCell (p:=⟨w.heap.size,1,none⟩) (.inl rfl) (.slice none 0 0)).setCell (p:=⟨w.heap.size,2,none⟩) (.inl rfl) (.slice none 0 0)).setCell (p:=⟨w.heap.size,3,none⟩) (.inl rfl) (.slice none 0 0)).setCell (p:=⟨w.heap.size,4,none⟩) (.inl rfl) (.slice none 0 0)).setCell (p:=⟨w.heap.size,5,none⟩) (.inl rfl) (.slice none 0 0)).setCell (p:=⟨w.heap.size,6,none⟩) (.inl rfl) (.slice none 0 0)).setCell (p:=⟨w.heap.size,7,none⟩) (.inl rfl) (.int .i64 0)).setCell (p:=⟨w.heap.size,8,none⟩) (.inl rfl) (.slice none 0 0)).setCell (p:=⟨w.heap.size,9,none⟩) (.inl rfl) (.slice none 0 0)).setCell (p:=⟨w.heap.size,10,none⟩) (.inl rfl) (.slice none 0 0))
 exact⟨(((((((((((HB1.out.setCell (p:=⟨w.heap.size,0,none⟩) (zq _) _).setCell (p:=⟨w.heap.size,1,none⟩) (zq _) _).setCell (p:=⟨w.heap.size,2,none⟩) (zq _) _).setCell (p:=⟨w.heap.size,3,none⟩) (zq _) _).setCell (p:=⟨w.heap.size,4,none⟩) (zq _) _).setCell (p:=⟨w.heap.size,5,none⟩) (zq _) _).setCell (p:=⟨w.heap.size,6,none⟩) (zq _) _).setCell (p:=⟨w.heap.size,7,none⟩) (zq _) _).setCell (p:=⟨w.heap.size,8,none⟩) (zq _) _).setCell (p:=⟨w.heap.size,9,none⟩) (zq _) _).setCell (p:=⟨w.heap.size,10,none⟩) (zq _) _),_,rfl,b,o,rfl,hkx.cell (show¬b=w.heap.size from hne) HV.out.1,hkx.cell (show¬b=w.heap.size from hne) HV.out.2⟩
theorem up_any(hN:Nam w)(hT:U8T w)(hE:Et w):Calls prog 7 #[] w λe w'=>e=.returned (.bool true)/\Below w.heap.size w w':=by
 have hm1:mo1.ok w w.heap.size:=(DmP.start w).fin (zq _) w (λ_ _ _=>rfl)
 have hc1:Cn mo1:=⟨by simp[mo1,mo0],by simp[mo1,mo0],by simp[mo1,mo0],by simp[mo1,mo0]⟩
 have HE:=hid (Encode_yes hm1 hN hT hc1 (by rfl))
 have HD:=hid (λ(w':World)=>Decode_bad (w:=w') (A:=none) (c:=0) (bs:=[]) (k:=2) (q:=0) rfl Sl.nil_ (zq _) (qw _) (by simp))
 have HEt:=hid hE
 have he:encM mo1=Sect.magic:=by rfl
 rw[he,show Sect.magic.length=8 from rfl]at HE
 clear hm1 hc1 hN hT hE he
 go_enter func7,ntmps7
 go_wp2_with fail
 refine HE.out.mono ?_
 rintro e w1 ⟨g,c1,rfl,-,-,hl1⟩
 have HL1:=hid hl1
 clear hl1
 go_wp2_with fail
 refine(HD.out w1).mono ?_
 rintro e w2 ⟨hb2,v,rfl,hsp2⟩
 have hcv:∀w',Below w1.heap.size w1 w'->(convert 35 9 (.slice (some ⟨g,0,none⟩) 8 c1)).run prog w'=.ok (.string ⟨#[0,97,115,109,1,0,0,0]⟩) w':=λw' hb=>run_str_of (P:=prog) (bs:=Sect.magic) 35 9 5 underlying35 underlying5 underlying9 ((HL1.out.later hb).sl) c1
 have HCv:=hid hcv
 obtain⟨W3,hW3⟩:∃W:World,W=w2.alloc (.cells (zcs 0) 32):=⟨_,rfl⟩
 have hb3:Below w2.heap.size w2 W3:=by rw[hW3];exact(zx _ _).alloc (zq _) _
 have HI:=hid (isSpot_any v 0 2 0 2 W3 (HEt.out.below ((HL1.out.below.trans (hb2.mono HL1.out.below.size)).trans (hb3.mono (by have h1:=HL1.out.below.size;have h2:=hb2.size;omega)))) (hsp2.below hb3))
 have hcw:=hcv W3 (hb2.trans (hb3.mono hb2.size))
 have HB3:=hid ((HL1.out.below.trans (hb2.mono HL1.out.below.size)).trans (hb3.mono (by have h1:=HL1.out.below.size;have h2:=hb2.size;omega)))
 obtain⟨b,o,rfl,-,-⟩:=hsp2
 unfold mo0 moV
 have hcw2:=hcw
 rw[hW3]at hcw2
 dsimp only[zcs]at hcw2
 clear hcv hb2 hb3 hcw
 go_wp2_with fail
 rw[<-hW3]
 clear hW3 hcw2
 refine HI.out.mono ?_
 rintro e w4 ⟨rfl,hb4⟩
 have HB4:=hid (HB3.out.trans (hb4.mono HB3.out.size))
 clear hb4
 go_wp2_with fail
 go_ret
 exact⟨rfl,HB4.out⟩
end
end Go.Proofs.YteoijlfipmaoeaaGreatDoor
