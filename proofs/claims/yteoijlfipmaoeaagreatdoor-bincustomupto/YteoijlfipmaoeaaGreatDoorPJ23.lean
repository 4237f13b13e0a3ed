import Derived.Test.YteoijlfipmaoeaaGreatDoorPBinRgA
set_option linter.unusedVariables false
set_option linter.unusedSimpArgs false
set_option maxRecDepth 100000
set_option maxHeartbeats 16000000
namespace Go.Proofs.YteoijlfipmaoeaaGreatDoor
open Lib (hid)
open Go.RowKit Trx
open Go.Proofs.Tryz
def FrT{β:Type}:(Nat->Prop)->World->β->Prop:=λ_ _ _=>True
theorem FrT.moves{β:Type}:Moves (FrT (β:=β)):=λ_ _ _ _ _ _ _ _ _=>trivial
theorem ty1{r:Option (UInt8×Nat)}{bs:List UInt8}(h:∀y q,r=some (y,q)->y=127):r.map (·.2)=(r.bind λx=>(if x.1=127 then Bin.ret (1:Int)else if x.1=126 then Bin.ret 2 else Bin.fl) bs x.2).map (·.2)/\∀z q,(r.bind λx=>(if x.1=127 then Bin.ret (1:Int)else if x.1=126 then Bin.ret 2 else Bin.fl) bs x.2)=some (z,q)->z=1:=by
 cases r with
 |none=>exact⟨rfl,λ_ _ e=>by cases e⟩
 |some y=>
  simp only[Option.bind_some]
  rw[if_pos (h y.1 y.2 rfl)]
  exact⟨rfl,λz q e=>(Bin.ret_some e).1.symm⟩
theorem ty2{r:Option (UInt8×Nat)}{bs:List UInt8}(h:∀y q,r=some (y,q)->y=126):r.map (·.2)=(r.bind λx=>(if x.1=127 then Bin.ret (1:Int)else if x.1=126 then Bin.ret 2 else Bin.fl) bs x.2).map (·.2)/\∀z q,(r.bind λx=>(if x.1=127 then Bin.ret (1:Int)else if x.1=126 then Bin.ret 2 else Bin.fl) bs x.2)=some (z,q)->z=2:=by
 cases r with
 |none=>exact⟨rfl,λ_ _ e=>by cases e⟩
 |some y=>
  have h2:=h y.1 y.2 rfl
  simp only[Option.bind_some]
  rw[if_neg (by rw[h2];decide),if_pos h2]
  exact⟨rfl,λz q e=>(Bin.ret_some e).1.symm⟩
theorem ty0{r:Option (UInt8×Nat)}{bs:List UInt8}(h:∀y q,r=some (y,q)->y≠127/\y≠126):(r.bind λx=>(if x.1=127 then Bin.ret (1:Int)else if x.1=126 then Bin.ret 2 else Bin.fl) bs x.2)=none:=by
 cases r with
 |none=>rfl
 |some y=>
  have h2:=h y.1 y.2 rfl
  simp only[Option.bind_some]
  rw[if_neg h2.1,if_neg h2.2]
  rfl
section
variable{R:Nat}{w0 w:World}{A:Option Addr}{c:Nat}{bs:List UInt8}{st:Option Nat}{p:Nat}{er:Value}
theorem rtype_any(h:Rst R w0 w A c bs st p er):
  Calls prog 203 #[pR R] w (RdQ R w0 w A c bs (st.bind λq=>Bin.gType bs q) (λ_ v x=>v=.int .i64 x) (λv=>∃x:Int,v=.int .i64 x)):=by
 have HB:=hid (rbyte_any h)
 have c1:=h.c1
 obtain⟨r,hr⟩:∃r,(st.bind λq=>Bin.gByte bs q)=r:=⟨_,rfl⟩
 rw[hr]at HB
 rw[show(st.bind λq=>Bin.gType bs q)=r.bind (λx=>(if x.1=127 then Bin.ret (1:Int)else if x.1=126 then Bin.ret 2 else Bin.fl) bs x.2)from res_of hr]
 clear h hr
 unfold RdQ at HB
 refine postL λP hP=>?_
 have HP:=hid hP
 clear hP
 go_enter func203,ntmps203
 go_wp2_with fail
 refine HB.out.mono ?_
 rintro e w1 ⟨v1,p1,er1,rfl,h1,hk1,⟨x,rfl⟩,hv1⟩
 have H1:=hid h1
 have HK1:=hid hk1
 have HV1:=hid (λy q (e:r=some (y,q))=>(u8_inj (hv1 y q e)).symm)
 have HF:=hid (λk=>rfail_any (p:Int) k h1)
 clear h1 hk1 hv1
 by_cases x1:x=127
 ·
  subst x1
  have HT:=hid (ty1 (bs:=bs) HV1.out)
  go_wp2_with fail
  rw[<-HP.out]
  exact⟨_,p1,er1,rfl,H1.out.eq HT.out.1,HK1.out,⟨1,rfl⟩,λy q e=>by rw[HT.out.2 y q e];rfl⟩
 by_cases x2:x=126
 ·
  subst x2
  have HT:=hid (ty2 (bs:=bs) HV1.out)
  go_wp2_with fail
  rw[<-HP.out]
  exact⟨_,p1,er1,rfl,H1.out.eq HT.out.1,HK1.out,⟨2,rfl⟩,λy q e=>by rw[HT.out.2 y q e];rfl⟩
 have HT:=hid (ty0 (bs:=bs) (r:=r) (λy q e=>by rw[HV1.out y q e];exact⟨x1,x2⟩))
 have t1:((x.toNat:Int)==127)=false:=u8_ne (k:=127) x1 rfl
 have t2:((x.toNat:Int)==126)=false:=u8_ne (k:=126) x2 rfl
 have t34:((x.toNat:Int)==125)=true\/(((x.toNat:Int)==125)=false/\((x.toNat:Int)==124)=true)\/(((x.toNat:Int)==125)=false/\((x.toNat:Int)==124)=false):=by
  cases((x.toNat:Int)==125)<;>cases((x.toNat:Int)==124)<;>simp
 clear x1 x2
 rw[HT.out]at HP
 rcases t34 with t3|⟨t3,t4⟩|⟨t3,t4⟩
 all_goals
  go_wp2_with(first
   |(go_at_call 131;(with_reducible refine(HF.out _).mono ?_);rintro e w2 ⟨rfl,er2,h2,hk2⟩;have H2:=hid h2;have HK2:=hid hk2;clear h2 hk2))
  rw[<-HP.out]
  exact⟨_,p1,er2,rfl,H2.out,HK1.out.trans HK2.out,⟨0,rfl⟩,λy q e=>by cases e⟩
theorem c_types1{X:Nat}(h:Rst R w0 w A c bs st p er)(hX:w.cell? ⟨X,0,none⟩=some (pR R)):
  Calls prog 236 #[.pointer (some ⟨X,0,none⟩)] w (RdE (λx:Int=>(.int .i64 x:Value)) (λx=>x) FrT R w0 w A c bs (st.bind λq=>Bin.gType bs q)):=by
 have HB:=hid (rtype_any h)
 clear h
 unfold RdQ at HB
 unfold RdE RdQ
 go_enter func236,ntmps236
 go_wp2_with(first
  |(go_at_call 203;(with_reducible refine HB.out.mono ?_);rintro e w1 ⟨v1,p1,er1,rfl,h1,hk1,hj1,hv1⟩;have H1:=hid h1;have HK1:=hid hk1;have HV1:=hid hv1;have HJ1:=hid hj1;clear h1 hk1 hv1 hj1))
 go_ret
 exact⟨_,p1,er1,rfl,H1.out,HK1.out,by first|exact HJ1.out|(obtain⟨x,hx,-⟩:=HJ1.out;exact⟨x,hx⟩),λy q e=>⟨y,HV1.out y q e,rfl,trivial⟩⟩
theorem c_elems11{X:Nat}(h:Rst R w0 w A c bs st p er)(hX:w.cell? ⟨X,0,none⟩=some (pR R)):
  Calls prog 213 #[.pointer (some ⟨X,0,none⟩)] w (RdE (λx:Int=>(.int .i64 x:Value)) (λx=>x) FrT R w0 w A c bs (st.bind λq=>Bin.gNum bs q)):=by
 have HB:=hid (rnumber_any h)
 clear h
 unfold RdQ at HB
 unfold RdE RdQ
 go_enter func213,ntmps213
 go_wp2_with(first
  |(go_at_call 33;(with_reducible refine HB.out.mono ?_);rintro e w1 ⟨v1,p1,er1,rfl,h1,hk1,hj1,hv1⟩;have H1:=hid h1;have HK1:=hid hk1;have HV1:=hid hv1;have HJ1:=hid hj1;clear h1 hk1 hv1 hj1))
 go_ret
 exact⟨_,p1,er1,rfl,H1.out,HK1.out,by first|exact HJ1.out|(obtain⟨x,hx,-⟩:=HJ1.out;exact⟨x,hx⟩),λy q e=>⟨y,HV1.out y q e,rfl,trivial⟩⟩
theorem c_decode11{X:Nat}(h:Rst R w0 w A c bs st p er)(hX:w.cell? ⟨X,0,none⟩=some (pR R)):
  Calls prog 32 #[.pointer (some ⟨X,0,none⟩)] w (RdE (λx:Int=>(.int .i64 x:Value)) (λx=>x) FrT R w0 w A c bs (st.bind λq=>Bin.gNum bs q)):=by
 have HB:=hid (rnumber_any h)
 clear h
 unfold RdQ at HB
 unfold RdE RdQ
 go_enter func32,ntmps32
 go_wp2_with(first
  |(go_at_call 33;(with_reducible refine HB.out.mono ?_);rintro e w1 ⟨v1,p1,er1,rfl,h1,hk1,hj1,hv1⟩;have H1:=hid h1;have HK1:=hid hk1;have HV1:=hid hv1;have HJ1:=hid hj1;clear h1 hk1 hv1 hj1))
 go_ret
 exact⟨_,p1,er1,rfl,H1.out,HK1.out,by first|exact HJ1.out|(obtain⟨x,hx,-⟩:=HJ1.out;exact⟨x,hx⟩),λy q e=>⟨y,HV1.out y q e,rfl,trivial⟩⟩
theorem c_bytes1{X:Nat}(h:Rst R w0 w A c bs st p er)(hX:w.cell? ⟨X,0,none⟩=some (pR R)):
  Calls prog 243 #[.pointer (some ⟨X,0,none⟩)] w (RdE (λx:UInt8=>(.int .u8 (x.toNat:Int):Value)) (λx=>x) FrT R w0 w A c bs (st.bind λq=>Bin.gByte bs q)):=by
 have HB:=hid (rbyte_any h)
 clear h
 unfold RdQ at HB
 unfold RdE RdQ
 go_enter func243,ntmps243
 go_wp2_with(first
  |(go_at_call 235;(with_reducible refine HB.out.mono ?_);rintro e w1 ⟨v1,p1,er1,rfl,h1,hk1,hj1,hv1⟩;have H1:=hid h1;have HK1:=hid hk1;have HV1:=hid hv1;have HJ1:=hid hj1;clear h1 hk1 hv1 hj1))
 go_ret
 exact⟨_,p1,er1,rfl,H1.out,HK1.out,by first|exact HJ1.out|(obtain⟨x,hx,-⟩:=HJ1.out;exact⟨x,hx⟩),λy q e=>⟨y,HV1.out y q e,rfl,trivial⟩⟩
theorem c_section1{X:Nat}(h:Rst R w0 w A c bs st p er)(hX:w.cell? ⟨X,0,none⟩=some (pR R)):
  Calls prog 138 #[.pointer (some ⟨X,0,none⟩)] w (RdE (λx:Lm=>(.agg #[.int .i64 x.mn,.int .i64 x.mx,.bool x.hs]:Value)) (λx=>x) FrT R w0 w A c bs (st.bind λq=>Bin.gTab bs q)):=by
 have HT:=hid (Bk.new h.lt #[.int .i64 0,.int .i64 0,.bool false] 75 _ rfl rfl)
 have HK:Hid (Kx (Only R) w (w.alloc (.cells #[.int .i64 0,.int .i64 0,.bool false] 75))):=hid (Kx.refl_.alloc _)
 have HB:=hid (rtable_any (h.alloc (.cells #[.int .i64 0,.int .i64 0,.bool false] 75)))
 have hge:=h.bel.size
 have hXl:=zn _ _ hX
 have hXa:=(((Kx.refl_ (M:=λ_=>False)).alloc (.cells #[.int .i64 0,.int .i64 0,.bool false] 75)).cell (by simp) hX)
 refine postL λP hP=>?_
 have HP:=hid hP
 clear h hP
 unfold RdQ at HB
 go_enter func138,ntmps138
 go_wp2_with(first
  |(go_at_call 139;(with_reducible refine HB.out.mono ?_);rintro e w2 ⟨v2,p2,er2,rfl,h2,hk2,⟨l,hl,rfl⟩,hv2⟩;have H2:=hid h2;have HK2:=hid (HK.out.trans hk2);have HT2:=hid (HT.out.kx hk2);have HV2:=hid hv2;have y0:=HT2.out.cell 0 _ rfl;have y1:=HT2.out.cell 1 _ rfl;have y2:=HT2.out.cell 2 _ rfl;have g0:=HT2.out.fr 0;have g1:=HT2.out.fr 1;have g2:=HT2.out.fr 2;clear h2 hk2 hv2 hl))
 refine bodyPost_ret (v:=.agg #[.int .i64 l.mn,.int .i64 l.mx,.bool l.hs]) (by simp[results,results138,go_sem,y0,y1,y2]) rfl ?_
 rw[<-HP.out]
 have hnw:w.heap.size≠R:=HT2.out.ne
 exact⟨_,p2,er2,rfl,(((H2.out.setOther hge hnw 0 _).setOther hge hnw 1 _).setOther hge hnw 2 _),((HK2.out.setCell (p:=⟨w.heap.size,0,none⟩) (.inr (zq _)) _).setCell (p:=⟨w.heap.size,1,none⟩) (.inr (zq _)) _).setCell (p:=⟨w.heap.size,2,none⟩) (.inr (zq _)) _,⟨l,rfl⟩,λy q e=>⟨y,HV2.out y q e,rfl,trivial⟩⟩
theorem c_section2{X:Nat}(h:Rst R w0 w A c bs st p er)(hX:w.cell? ⟨X,0,none⟩=some (pR R)):
  Calls prog 140 #[.pointer (some ⟨X,0,none⟩)] w (RdE (λx:Lm=>(.agg #[.int .i64 x.mn,.int .i64 x.mx,.bool x.hs]:Value)) (λx=>x) FrT R w0 w A c bs (st.bind λq=>Bin.gLim bs q)):=by
 have HT:=hid (Bk.new h.lt #[.int .i64 0,.int .i64 0,.bool false] 75 _ rfl rfl)
 have HK:Hid (Kx (Only R) w (w.alloc (.cells #[.int .i64 0,.int .i64 0,.bool false] 75))):=hid (Kx.refl_.alloc _)
 have HB:=hid (rlimits_any (h.alloc (.cells #[.int .i64 0,.int .i64 0,.bool false] 75)))
 have hge:=h.bel.size
 have hXl:=zn _ _ hX
 have hXa:=(((Kx.refl_ (M:=λ_=>False)).alloc (.cells #[.int .i64 0,.int .i64 0,.bool false] 75)).cell (by simp) hX)
 refine postL λP hP=>?_
 have HP:=hid hP
 clear h hP
 unfold RdQ at HB
 go_enter func140,ntmps140
 go_wp2_with(first
  |(go_at_call 141;(with_reducible refine HB.out.mono ?_);rintro e w2 ⟨v2,p2,er2,rfl,h2,hk2,⟨l,hl,rfl⟩,hv2⟩;have H2:=hid h2;have HK2:=hid (HK.out.trans hk2);have HT2:=hid (HT.out.kx hk2);have HV2:=hid hv2;have y0:=HT2.out.cell 0 _ rfl;have y1:=HT2.out.cell 1 _ rfl;have y2:=HT2.out.cell 2 _ rfl;have g0:=HT2.out.fr 0;have g1:=HT2.out.fr 1;have g2:=HT2.out.fr 2;clear h2 hk2 hv2 hl))
 refine bodyPost_ret (v:=.agg #[.int .i64 l.mn,.int .i64 l.mx,.bool l.hs]) (by simp[results,results140,go_sem,y0,y1,y2]) rfl ?_
 rw[<-HP.out]
 have hnw:w.heap.size≠R:=HT2.out.ne
 exact⟨_,p2,er2,rfl,(((H2.out.setOther hge hnw 0 _).setOther hge hnw 1 _).setOther hge hnw 2 _),((HK2.out.setCell (p:=⟨w.heap.size,0,none⟩) (.inr (zq _)) _).setCell (p:=⟨w.heap.size,1,none⟩) (.inr (zq _)) _).setCell (p:=⟨w.heap.size,2,none⟩) (.inr (zq _)) _,⟨l,rfl⟩,λy q e=>⟨y,HV2.out y q e,rfl,trivial⟩⟩
end
def FrO{α β:Type}(k:Nat)(cells:β->List Value)(key:β->α)(Fr:(Nat->Prop)->World->β->Prop)(lo:Nat)(w:World)(v:Value):Option (List α×Nat)->Prop
 |none=>v=.slice none 0 0
 |some x=>FrL k cells key Fr lo w v x.1
theorem FrL_from{α β:Type}{k:Nat}{cells:β->List Value}{key:β->α}{Fr:(Nat->Prop)->World->β->Prop}(hmv:Moves Fr){lo lo':Nat}{w:World}{v:Value}{res:Option (List α×Nat)}(hl:lo'<=lo)(h:FrO k cells key Fr lo w v res):FrO k cells key Fr lo' w v res:=by
 cases res with
 |none=>exact h
 |some x=>
  obtain⟨A1,bl,c1,e1,h1,h2,e2,h3,h4⟩:=h
  exact⟨A1,bl,c1,e1,h1,h2,e2,λw2 ha=>h3 w2 λb o hb=>ha b o ⟨by have:=hb.1;omega,hb.2⟩,λb hb=>hmv _ _ _ _ _ (h4 b hb) (λ_ _ _=>rfl) (λm hm=>⟨by have:=hm.1;omega,hm.2⟩) (zq _)⟩
theorem RdL.o{α β:Type}{k:Nat}{cells:β->List Value}{key:β->α}{Fr:(Nat->Prop)->World->β->Prop}{R:Nat}{w0 w:World}{A:Option Addr}{c:Nat}{bs:List UInt8}{res:Option (List α×Nat)}{e:Ending}{w':World}(h:RdL k cells key Fr R w0 w A c bs res e w'):∃v p' er',e=.returned v/\Rst R w0 w' A c bs (res.map (·.2)) p' er'/\Kx (Only R) w w'/\FrO k cells key Fr w.heap.size w' v res:=by
 obtain⟨v,p',er',h1,h2,h3,h4⟩:=h
 refine⟨v,p',er',h1,h2,h3,?_⟩
 cases res<;>exact h4
theorem RdL.of{α β:Type}{k:Nat}{cells:β->List Value}{key:β->α}{Fr:(Nat->Prop)->World->β->Prop}{R:Nat}{w0 w:World}{A:Option Addr}{c:Nat}{bs:List UInt8}{res:Option (List α×Nat)}{e:Ending}{w':World}(h:∃v p' er',e=.returned v/\Rst R w0 w' A c bs (res.map (·.2)) p' er'/\Kx (Only R) w w'/\FrO k cells key Fr w.heap.size w' v res):RdL k cells key Fr R w0 w A c bs res e w':=by
 obtain⟨v,p',er',h1,h2,h3,h4⟩:=h
 refine⟨v,p',er',h1,h2,h3,?_⟩
 cases res<;>exact h4
section
variable{R:Nat}{w0 w:World}{A:Option Addr}{c:Nat}{bs:List UInt8}{st:Option Nat}{p:Nat}{er:Value}
theorem rtypes_any(h:Rst R w0 w A c bs st p er):
  Calls prog 199 #[pR R] w (RdL 1 (λx:Int=>([.int .i64 x]:List Value)) (λx=>x) FrT R w0 w A c bs (st.bind λq=>Bin.gList 64 Bin.gType bs q)):=by
 have hlt0:=h.lt
 have hlt:=h.lt
 have e0:(w.alloc (.cells #[pR R] 88)).cell? ⟨w.heap.size,0,none⟩=some (pR R):=by rw[zv _ _ _ _ rfl];rfl
 have HK:Hid (Kx (Only R) w (w.alloc (.cells #[pR R] 88))):=hid (Kx.refl_.alloc _)
 have HL:=hid (glist_any .int 236 (λ_ _=>rfl) #[.pointer (some ⟨w.heap.size,0,none⟩)] Bin.gType (λx=>x) FrT FrT.moves 64 64 rfl (by omega) (h.alloc (.cells #[pR R] 88)) (λw' st' p' er' h' hk'=>c_types1 h' (hk'.cell (b:=w.heap.size) (by show¬w.heap.size=R;omega) e0)))
 have hsz:(w.alloc (.cells #[pR R] 88)).heap.size=w.heap.size+1:=by simp
 clear h e0
 refine postL λP hP=>?_
 have HP:=hid hP
 clear hP
 go_enter func199,ntmps199
 go_wp2_with(first
  |(go_at_call 31;(with_reducible refine HL.out.mono ?_);intro e w1 hx;obtain⟨v1,p1,er1,rfl,h1,hk1,hv1⟩:=hx.o;have H1:=hid h1;have HK1:=hid (HK.out.trans hk1);have HV1:=hid hv1;clear hx h1 hk1 hv1))
 rw[<-HP.out]
 exact RdL.of ⟨_,p1,er1,rfl,H1.out,HK1.out,FrL_from FrT.moves (by omega) HV1.out⟩
theorem rbytes_any(L:Int)(lim:Nat)(hL:L=lim)(hl1:lim<=4294967295)(h:Rst R w0 w A c bs st p er):
  Calls prog 221 #[pR R,.int .i64 L] w (RdL 1 (λx:UInt8=>([.int .u8 (x.toNat:Int)]:List Value)) (λx=>x) FrT R w0 w A c bs (st.bind λq=>Bin.gList lim Bin.gByte bs q)):=by
 subst hL
 have hlt:=h.lt
 have e0:(w.alloc (.cells #[pR R] 88)).cell? ⟨w.heap.size,0,none⟩=some (pR R):=by rw[zv _ _ _ _ rfl];rfl
 have HK:Hid (Kx (Only R) w (w.alloc (.cells #[pR R] 88))):=hid (Kx.refl_.alloc _)
 have HL:=hid (glist_any .byte 243 (λ_ _=>rfl) #[.pointer (some ⟨w.heap.size,0,none⟩)] Bin.gByte (λx=>x) FrT FrT.moves _ lim rfl hl1 (h.alloc (.cells #[pR R] 88)) (λw' st' p' er' h' hk'=>c_bytes1 h' (hk'.cell (b:=w.heap.size) (by show¬w.heap.size=R;omega) e0)))
 have hsz:(w.alloc (.cells #[pR R] 88)).heap.size=w.heap.size+1:=by simp
 clear h e0
 refine postL λP hP=>?_
 have HP:=hid hP
 clear hP
 go_enter func221,ntmps221
 go_wp2_with(first
  |(go_at_call 242;(with_reducible refine HL.out.mono ?_);intro e w1 hx;obtain⟨v1,p1,er1,rfl,h1,hk1,hv1⟩:=hx.o;have H1:=hid h1;have HK1:=hid (HK.out.trans hk1);have HV1:=hid hv1;clear hx h1 hk1 hv1))
 rw[<-HP.out]
 exact RdL.of ⟨_,p1,er1,rfl,H1.out,HK1.out,FrL_from FrT.moves (by omega) HV1.out⟩
end
def FrK{β:Type}(ok:World->Nat->β->Prop):(Nat->Prop)->World->β->Prop:=λS w b=>∀w2,Agr S w w2->ok w2 w.heap.size b
theorem FrK.moves{β:Type}{ok:World->Nat->β->Prop}(hm:∀(w:World) (B B':Nat) (b:β),ok w B b->B<=B'->ok w B' b):Moves (FrK ok):=λ_ _ _ _ _ h ha hs hB w2 h2=>hm _ _ _ _ (h w2 (ha.trans (h2.sub hs))) hB
theorem IL.ok.more(w:World)(B B':Nat)(l:IL)(h:l.ok w B)(hB:B<=B'):l.ok w B':=h.keep hB (λ_ _ _=>rfl)
theorem BL.ok.more(w:World)(B B':Nat)(l:BL)(h:l.ok w B)(hB:B<=B'):l.ok w B':=h.keep hB (λ_ _ _=>rfl)
theorem Ty.ok.more(w:World)(B B':Nat)(l:Ty)(h:l.ok w B)(hB:B<=B'):l.ok w B':=h.keep hB (λ_ _ _=>rfl)
theorem Gl.ok.more(w:World)(B B':Nat)(l:Gl)(h:l.ok w B)(hB:B<=B'):l.ok w B':=h.keep hB (λ_ _ _=>rfl)
theorem El.ok.more(w:World)(B B':Nat)(l:El)(h:l.ok w B)(hB:B<=B'):l.ok w B':=h.keep hB (λ_ _ _=>rfl)
theorem Da.ok.more(w:World)(B B':Nat)(l:Da)(h:l.ok w B)(hB:B<=B'):l.ok w B':=h.keep hB (λ_ _ _=>rfl)
theorem Fn.ok.more(w:World)(B B':Nat)(l:Fn)(h:l.ok w B)(hB:B<=B'):l.ok w B':=h.keep hB (λ_ _ _=>rfl)
section
variable{R:Nat}{w0 w:World}{A:Option Addr}{c:Nat}{bs:List UInt8}{st:Option Nat}{p:Nat}{er:Value}
def RdI(R:Nat)(w0 w:World)(A:Option Addr)(c:Nat)(bs:List UInt8)(res:Option (List Int×Nat)):Ending->World->Prop:=
 RdQ R w0 w A c bs res (λw' v x=>∃l:IL,v=l.v/\l.zs=x/\FrK IL.ok (Win w.heap.size w') w' l) (λv=>∃l:IL,v=l.v)
def RdB(R:Nat)(w0 w:World)(A:Option Addr)(c:Nat)(bs:List UInt8)(res:Option (List UInt8×Nat)):Ending->World->Prop:=
 RdQ R w0 w A c bs res (λw' v x=>∃l:BL,v=l.v/\l.bs=x/\FrK BL.ok (Win w.heap.size w') w' l) (λv=>∃l:BL,v=l.v)
theorem RdL.il{res:Option (List Int×Nat)}{e:Ending}{w':World}(hq:∀x q,res=some (x,q)->x.length<=100000/\∀z∈x,inI z)(h:RdL 1 (λx:Int=>([.int .i64 x]:List Value)) (λx=>x) FrT R w0 w A c bs res e w'):RdI R w0 w A c bs res e w':=by
 obtain⟨v,p',er',h1,h2,h3,h4⟩:=h
 refine⟨v,p',er',h1,h2,h3,?_⟩
 cases res with
 |none=>exact⟨⟨⟨[],none,0⟩,h4⟩,λ_ _ e=>by cases e⟩
 |some xq=>
  obtain⟨x,q⟩:=xq
  obtain⟨A1,bl,c1,e1,g1,g2,e2,g3,-⟩:=h4
  have e2:bl=x:=by simpa using e2
  subst e2
  obtain⟨k1,k2⟩:=hq _ _ rfl
  refine⟨⟨⟨bl,A1,c1⟩,e1⟩,λy q' e=>?_⟩
  injection e with e
  injection e with e3 e4
  subst e3
  exact⟨⟨bl,A1,c1⟩,e1,rfl,λw2 ha=>⟨g1,g2,by show bl.length * 8<=RB;unfold RB;omega,k2,RowsAt.sl (by rw[n64_rows];exact g3 w2 ha)⟩⟩
theorem RdL.bl{res:Option (List UInt8×Nat)}{e:Ending}{w':World}(hq:∀x q,res=some (x,q)->x.length<=100000)(h:RdL 1 (λx:UInt8=>([.int .u8 (x.toNat:Int)]:List Value)) (λx=>x) FrT R w0 w A c bs res e w'):RdB R w0 w A c bs res e w':=by
 obtain⟨v,p',er',h1,h2,h3,h4⟩:=h
 refine⟨v,p',er',h1,h2,h3,?_⟩
 cases res with
 |none=>exact⟨⟨⟨[],none,0⟩,h4⟩,λ_ _ e=>by cases e⟩
 |some xq=>
  obtain⟨x,q⟩:=xq
  obtain⟨A1,bl,c1,e1,g1,g2,e2,g3,-⟩:=h4
  have e2:bl=x:=by simpa using e2
  subst e2
  have k1:=hq _ _ rfl
  refine⟨⟨⟨bl,A1,c1⟩,e1⟩,λy q' e=>?_⟩
  injection e with e
  injection e with e3 e4
  subst e3
  exact⟨⟨bl,A1,c1⟩,e1,rfl,λw2 ha=>⟨g1,g2,by show bl.length<=RB;unfold RB;omega,RowsAt.sl (by rw[u8_rows];exact g3 w2 ha)⟩⟩
theorem Rst.at_(h:Rst R w0 w A c bs st p er){q:Nat}(e:st=some q):q<=bs.length:=by
 rcases h.lk with⟨h1,-⟩|⟨h1,-⟩
 ·rw[h1]at e;injection e with e;have:=h.hp;omega
 ·rw[h1]at e;cases e
theorem Rst.got{α:Type}{pc:α->Bin.Pc}{s:α->Prop}{g:Bin.Rd α}(h:Rst R w0 w A c bs st p er)(hg:Bin.Got pc s g){x:α}{q:Nat}(e:(st.bind λq=>g bs q)=some (x,q)):(pc x).2=true/\s x:=by
 cases hst:st with
 |none=>rw[hst]at e;cases e
 |some q0=>
  rw[hst]at e
  obtain⟨h1,h2,-,-⟩:=hg bs q0 x q (h.at_ hst) e
  exact⟨h1,h2⟩
theorem pAll_all{α:Type}{p:α->Bin.Pc}{l:List α}(h:(Bin.pList p l).2=true):∀x∈l,(p x).2=true:=by
 simp only[Bin.pList,Bin.cat,Bin.pAll,zp,List.all_eq_true]at h
 exact h.2
theorem rtypes_il(h:Rst R w0 w A c bs st p er):Calls prog 199 #[pR R] w (RdI R w0 w A c bs (st.bind λq=>Bin.gList 64 Bin.gType bs q)):=
 (rtypes_any h).mono λe w' hx=>hx.il λx q hr=>by
  obtain⟨h1,h2⟩:=h.got (Bin.list_got Bin.type_got 64) hr
  refine⟨zy h2.1 (by decide),λz hz=>?_⟩
  rcases Bin.type_of (pAll_all h1 z hz)with⟨rfl,-⟩|⟨rfl,-⟩<;>unfold inI<;>omega
theorem rbytes_bl(L:Int)(lim:Nat)(hL:L=lim)(hl1:lim<=100000)(h:Rst R w0 w A c bs st p er):Calls prog 221 #[pR R,.int .i64 L] w (RdB R w0 w A c bs (st.bind λq=>Bin.gList lim Bin.gByte bs q)):=
 (rbytes_any L lim hL (by omega) h).mono λe w' hx=>hx.bl λx q hr=>by
  obtain⟨h1,h2⟩:=h.got (Bin.list_got Bin.byte_got lim) hr
  exact zy h2.1 hl1
end
section
variable{R:Nat}{w0 w:World}{A:Option Addr}{c:Nat}{bs:List UInt8}{st:Option Nat}{p:Nat}{er:Value}
theorem Sl.take8{B:Nat}(h:Sl w B A (u8s bs))(n:Nat):Sl w B A (u8s (bs.take n)):=by
 intro hne
 have hb:u8s bs≠[]:=by
  intro e
  have:bs=[]:=by cases bs with|nil=>rfl|cons _ _=>simp[u8s]at e
  subst this
  simp[u8s]at hne
 obtain⟨b,o,e,hlt,hc⟩:=h hb
 refine⟨b,o,e,hlt,λi hi=>?_⟩
 have hi2:i<(bs.take n).length:=by simpa using hi
 have hi3:i<bs.length:=by rw[qh]at hi2;omega
 rw[hc i (by simpa using hi3)]
 have hin:i<n:=by rw[qh]at hi2;omega
 unfold u8s
 rw[zr,zr,ja,if_pos hin]
theorem Rst.cut{n:Nat}(h:Rst R w0 w A c bs st p er)(hpn:p<=n)(hn:n<=bs.length):Rst R w0 (w.setCell ⟨R,0,none⟩ (.slice A n c)) A c (bs.take n) st p er:=by
 have hl:(bs.take n).length=n:=by rw[qh];omega
 refine⟨h.hR,?_,(zk _ _ _ _ (by simp)).trans h.c1,(zk _ _ _ _ (by simp)).trans h.c2,λi=>(za _ _ _ _).trans (h.fr i),h.sl.take8 n,by have:=h.hc;omega,h.hm,by omega,h.bel.setCell h.hR _,h.lk⟩
 rw[hl]
 exact ze _ _ _ h.c0
theorem Rst.uncut{w':World}{n:Nat}{st':Option Nat}{p':Nat}{er':Value}(h:Rst R w0 w A c bs st p er)(h':Rst R w0 w' A c (bs.take n) st' p' er'):Rst R w0 (w'.setCell ⟨R,0,none⟩ (.slice A bs.length c)) A c bs st' p' er':=by
 have hl:(bs.take n).length<=bs.length:=by rw[qh];omega
 exact⟨h'.hR,ze _ _ _ h'.c0,(zk _ _ _ _ (by simp)).trans h'.c1,(zk _ _ _ _ (by simp)).trans h'.c2,λi=>(za _ _ _ _).trans (h'.fr i),h.sl,h.hc,h.hm,zy h'.hp hl,h'.bel.setCell h'.hR _,h'.lk⟩
end
end Go.Proofs.YteoijlfipmaoeaaGreatDoor
namespace Go.Proofs.YteoijlfipmaoeaaGreatDoor.Bin
open Leb Trx
def gRun(room:Nat):Rd (Nat×Int):=bnd gNum λk=>if k<=room then bnd gType λt=>ret (k.toNat,t)else fl
theorem gRuns_next(n room:Nat)(bs:List UInt8)(q:Nat):gRuns (n+1) room bs q=(gRun room bs q).bind λx=>(gRuns n (room-x.1.1) bs x.2).map λy=>(x.1::y.1,y.2):=by
 rw[gRuns]
 unfold gRun bnd
 cases gNum bs q with
 |none=>rfl
 |some y=>
  dsimp only
  by_cases hle:y.1<=(room:Int)
  ·
   rw[if_pos hle,if_pos hle]
   cases gType bs y.2 with
   |none=>rfl
   |some z=>
    dsimp only[ret,Option.bind_some]
    cases gRuns n (room-y.1.toNat) bs z.2<;>rfl
  ·
   rw[if_neg hle,if_neg hle]
   rfl
end Go.Proofs.YteoijlfipmaoeaaGreatDoor.Bin
namespace Go.Proofs.YteoijlfipmaoeaaGreatDoor
open Lib (hid)
open Go.RowKit Trx
open Go.Proofs.Tryz
theorem gR_some{n room q q':Nat}{bs:List UInt8}{x:Nat×Int}{acc:List (Nat×Int)}(h:Bin.gRun room bs q=some (x,q')):preL acc (Bin.gRuns (n+1) room bs q)=preL (acc++[x]) (Bin.gRuns n (room-x.1) bs q'):=by
 rw[Bin.gRuns_next,h,Option.bind_some]
 dsimp only
 cases Bin.gRuns n (room-x.1) bs q' with
 |none=>rfl
 |some y=>simp[preL]
theorem gR_none{n room q:Nat}{bs:List UInt8}{acc:List (Nat×Int)}(h:Bin.gRun room bs q=none):preL acc (Bin.gRuns (n+1) room bs q)=none:=by
 rw[Bin.gRuns_next,h]
 rfl
theorem glr_none{st:Option Nat}{bs:List UInt8}{acc:List (Nat×Int)}{n j room:Nat}(hj:j<n)(h:(st.bind λq=>Bin.gRun room bs q)=none):(st.bind λq=>preL acc (Bin.gRuns (n-j) room bs q))=none:=by
 cases st with
 |none=>rfl
 |some q=>
  simp only[Option.bind_some]at h⊢
  obtain⟨m,hm⟩:∃m,n-j=m+1:=⟨n-j-1,by omega⟩
  rw[hm]
  exact gR_none h
theorem glr_some{st:Option Nat}{bs:List UInt8}{acc:List (Nat×Int)}{n j room q':Nat}{x:Nat×Int}(hj:j<n)(h:(st.bind λq=>Bin.gRun room bs q)=some (x,q')):(st.bind λq=>preL acc (Bin.gRuns (n-j) room bs q))=preL (acc++[x]) (Bin.gRuns (n-(j+1)) (room-x.1) bs q'):=by
 cases st with
 |none=>cases h
 |some q=>
  simp only[Option.bind_some]at h⊢
  obtain⟨m,hm⟩:∃m,n-j=m+1:=⟨n-j-1,by omega⟩
  have hm2:n-(j+1)=m:=by omega
  rw[hm,hm2]
  exact gR_some h
theorem OwnK.kxm{M:Nat->Prop}{B:Nat}{w w':World}{e:TypeId}{k:Nat}{v:Value}{rs:List (List Value)}(h:OwnK B w w e k v rs)(hk:Kx M w w')(hM:∀b,M b->b<B):OwnK B w' w' e k v rs:=by
 refine⟨⟨h.row.1,?_⟩,h.len,zx _ _,zy h.le hk.size⟩
 rcases h.row.2 with⟨rfl,hn⟩|⟨g,cap,cur,rfl,hg,hcur,hrest⟩
 ·exact .inl ⟨rfl,hn⟩
 ·
  refine .inr ⟨g,cap,cur,rfl,hg,?_,hrest⟩
  have hlt:g<w.heap.size:=by
   rcases qm g w.heap.size with h1|h1
   ·exact h1
   ·rw[qi h1]at hcur;cases hcur
  rw[hk.block g hlt (λhm=>by have:=hM g hm;omega)];exact hcur
structure Rm(M:Nat)(w:World)(room:Int):Prop where
 cell:w.cell? ⟨M,0,none⟩=some (.int .i64 room)
 fr:w.frozen? ⟨M,0,none⟩=false
theorem Rm.lt{M:Nat}{w:World}{room:Int}(h:Rm M w room):M<w.heap.size:=zn _ _ h.cell
theorem Rm.kx{K:Nat->Prop}{M:Nat}{w w':World}{room:Int}(h:Rm M w room)(hk:Kx K w w')(hM:¬K M):Rm M w' room:=⟨hk.cell hM h.cell,(hk.frozen h.lt hM).trans h.fr⟩
theorem Rm.set{M:Nat}{w:World}{room:Int}(h:Rm M w room)(x:Int):Rm M (w.setCell ⟨M,0,none⟩ (.int .i64 x)) x:=⟨ze _ _ _ h.cell,(za _ _ _ _).trans h.fr⟩
theorem Rm.setOther{M:Nat}{w:World}{room:Int}(h:Rm M w room){n:Nat}(hn:n≠M)(i:Nat)(x:Value):Rm M (w.setCell ⟨n,i,none⟩ x) room:=⟨(zk _ _ _ _ (by first|(simp;done)|(simp;omega))).trans h.cell,(za _ _ _ _).trans h.fr⟩
def RdRn(R M:Nat)(w0 w:World)(A:Option Addr)(c:Nat)(bs:List UInt8)(room:Nat)(res:Option ((Nat×Int)×Nat)):Ending->World->Prop:=λe w'=>∃(n t:Int) (p':Nat) (er':Value),e=.returned (.agg #[.int .i64 n,.int .i64 t])/\Rst R w0 w' A c bs (res.map (·.2)) p' er'/\Kx (Two R M) w w'/\Rm M w' ((room:Int)-n)/\∀x q,res=some (x,q)->n=(x.1:Int)/\t=x.2/\x.1<=room
def RdRs(R M:Nat)(w0 w:World)(A:Option Addr)(c:Nat)(bs:List UInt8)(res:Option (List (Nat×Int)×Nat)):Ending->World->Prop:=λe w'=>∃v p' er',e=.returned v/\Rst R w0 w' A c bs (res.map (·.2)) p' er'/\Kx (Two R M) w w'/\match res with
 |none=>v=.slice none 0 0
 |some x=>∃(A:Option Addr) (c:Nat),v=.slice A x.1.length c/\OwnK w.heap.size w' w' 224 2 (.slice A x.1.length c) (x.1.map rnC)
def GlR(R M:Nat)(w0 w:World)(A:Option Addr)(c:Nat)(bs:List UInt8)(n:Nat)(res:Option (List (Nat×Int)×Nat))(v i:Value)(w1:World):Prop:=
 ∃(j:Nat) (bl:List (Nat×Int)) (st':Option Nat) (p':Nat) (er':Value) (room:Nat),i=.int .i64 (j:Int)/\bl.length=j/\j<=n/\Rst R w0 w1 A c bs st' p' er'/\Kx (Two R M) w w1/\OwnK w.heap.size w1 w1 224 2 v (bl.map rnC)/\Rm M w1 room/\room<=64/\(st'.bind λq=>preL bl (Bin.gRuns (n-j) room bs q))=res/\(st'=none->v=.slice none 0 0)
section
variable{R M:Nat}{w0 w w1:World}{A:Option Addr}{c:Nat}{bs:List UInt8}{n:Nat}{res:Option (List (Nat×Int)×Nat)}
theorem GlR.start{r:Option (Int×Nat)}{m:Int}{p:Nat}{er:Value}(h:Rst R w0 w1 A c bs (r.map (·.2)) p er)(hk:Kx (Two R M) w w1)(hm:Rm M w1 64)(hv:∀x q,r=some (x,q)->(.int .i64 m:Value)=.int .i64 x):GlR R M w0 w A c bs m.toNat (r.bind λx=>Bin.gRuns x.1.toNat 64 bs x.2) (.slice none 0 0) (.int .i64 0) w1:=by
 refine⟨0,[],_,p,er,64,rfl,rfl,qw _,h,hk,OwnK.nil_ _ _ _ _ (zx _ _) hk.size,hm,zq _,?_,λ_=>rfl⟩
 cases r with
 |none=>rfl
 |some y=>
  obtain⟨y1,y2⟩:=y
  have:=i64_inj (hv _ _ rfl)
  subst this
  simp only[Option.map_some,Option.bind_some,preL_nil,Nat.sub_zero]
theorem GlR.push{bl:List (Nat×Int)}{x:Nat×Int}{w2 w2' w3:World}{v v3 i:Value}{j q' p2 room:Nat}{er2:Value}(hR:R<w.heap.size)(hMw:M<w.heap.size)(hb:bl.length=j)(hj:j<n)(hk:Kx (Two R M) w w1)(how:OwnK w.heap.size w1 w1 224 2 v (bl.map rnC))
  (hres:preL (bl++[x]) (Bin.gRuns (n-(j+1)) (room-x.1) bs q')=res) (hk2:Kx (Two R M) w1 w2) (hx:x.1<=room) (hroom:room<=64) (hm2:Rm M w2 ((room:Int)-x.1)) (h2:Rst R w0 w2 A c bs (some q') p2 er2) (hbl:Below w2.heap.size w2 w2')
  (ho3:OwnK w.heap.size w2 w3 224 2 v3 (bl.map rnC++[rnC x])) (hk3:∀m,m<w2'.heap.size->v.ownBlock≠some m->w3.heap[m]? =w2'.heap[m]?/\v3.ownBlock≠some m) (hs3:w2'.heap.size<=w3.heap.size) (hi:i=.int .i64 ((j+1:Nat):Int)):
  GlR R M w0 w A c bs n res v3 i w3:=by
 have hsz:=hk.size
 have hsz2:=hk2.size
 have hsz3:w2.heap.size<=w3.heap.size:=zy hbl.size hs3
 have hb3:∀m,m<w2.heap.size->v.ownBlock≠some m->w3.heap[m]? =w2.heap[m]?/\v3.ownBlock≠some m:=λm hm hv=>by
  obtain⟨e1,e2⟩:=hk3 m (zj hm hbl.size) hv
  exact⟨e1.trans (hbl.block m hm),e2⟩
 have hwn:∀g,v.ownBlock=some g->w.heap.size<=g/\g<w1.heap.size:=λg hg=>how.own_lt hg
 have hkx:Kx (λb=>v.ownBlock=some b) w2 w3:=⟨ho3.below.os,ho3.below.tape,ho3.below.output,hsz3,λb hb hm=>(hb3 b hb hm).1⟩
 have hr3:Rst R w0 w3 A c bs (some q') p2 er2:=h2.kx hkx (λe=>by have:=(hwn R e).1;omega) (λb hb=>by have:=(hwn b hb).1;have:=h2.hR;omega)
 have hm3:Rm M w3 ((room-x.1:Nat):Int):=by
  have:=hm2.kx hkx (λe=>by have:=(hwn M e).1;omega)
  rw[show((room-x.1:Nat):Int)=(room:Int)-x.1 by omega]
  exact this
 exact⟨j+1,bl++[x],some q',p2,er2,room-x.1,hi,by simp[hb],by omega,hr3,(hk.trans hk2).trans' hkx (λb hb=>.inr (hwn b hb).1),by rw[qd];exact ho3.self,hm3,by omega,hres,λh=>by cases h⟩
theorem GlR.done{bl:List (Nat×Int)}{j:Nat}{st':Option Nat}{p' room:Nat}{er' v:Value}(hb:bl.length=j)(hj:j=n)(hr:Rst R w0 w1 A c bs st' p' er')(hk:Kx (Two R M) w w1)(how:OwnK w.heap.size w1 w1 224 2 v (bl.map rnC))
  (hres:(st'.bind λq=>preL bl (Bin.gRuns (n-j) room bs q))=res) (hs:st'=none->v=.slice none 0 0):RdRs R M w0 w A c bs res (.returned v) w1:=by
 have hz:n-j=0:=by omega
 rw[hz]at hres
 cases st' with
 |none=>
  subst hres
  exact⟨v,p',er',rfl,hr,hk,hs rfl⟩
 |some q=>
  have hres:some (bl,q)=res:=by rw[<-hres];simp[Bin.gRuns,preL,Bin.ret]
  subst hres
  refine⟨v,p',er',rfl,hr,hk,?_⟩
  obtain⟨A1,c1,e1,-,-,-⟩:=how.fr (cells:=rnC) (by decide)
  exact⟨A1,c1,e1,by rw[<-e1];exact how⟩
end
def endAt(m:Nat):Option Nat->Option Nat
 |none=>none
 |some q=>if q=m then some q else none
section
variable{R:Nat}{w0 w:World}{A:Option Addr}{c:Nat}{bs:List UInt8}{st:Option Nat}{p:Nat}{er:Value}
theorem endAt_lt{m:Nat}(h:Rst R w0 w A c bs st p er)(hp:p<m):endAt m st=none:=by
 rcases h.lk with⟨h1,-⟩|⟨h1,-⟩
 ·subst h1;unfold endAt;dsimp only;rw[if_neg (by omega)]
 ·subst h1;rfl
theorem endAt_eq{m:Nat}(h:Rst R w0 w A c bs st p er)(hp:p=m):endAt m st=st:=by
 rcases h.lk with⟨h1,-⟩|⟨h1,-⟩
 ·subst h1;unfold endAt;dsimp only;rw[if_pos hp]
 ·subst h1;rfl
theorem endAt_part{α:Type}{g:Bin.Rd α}{n:Nat}(hn:p+n<=bs.length):(endAt (p+n) ((g (bs.take (p+n)) p).map (·.2)))=(Bin.part n g bs p).map (·.2):=by
 unfold Bin.part
 rw[if_pos hn]
 cases g (bs.take (p+n)) p with
 |none=>rfl
 |some x=>dsimp only[endAt,Option.map_some];split<;>rfl
theorem rpart_any(n:Nat)(k:Nat)(hk:∀(a:Array Value) (w:World),Sem.run prog (callFunc k a) w=.ok (.enter k a) w)(caps:Array Value)(QQ:Option Nat->World->Prop)(h:Rst R w0 w A c bs st p er)(hn:p+n<=bs.length)
  (H:∀w',Rst R w0 w' A c (bs.take (p+n)) st p er->Kx (Only R) w w'->Calls prog k caps w' λe w2=>e=.returned (.tuple #[])/\∃st' p' er',Rst R w0 w2 A c (bs.take (p+n)) st' p' er'/\QQ st' w2):
  Calls prog 29 #[pR R,.int .i64 (n:Int),.func (.func k) #[] caps] w λe w'=>e=.returned (.tuple #[])/\∃w1 st' p' er' p2 er2,Rst R w0 w1 A c (bs.take (p+n)) st' p' er'/\QQ st' w1/\Rst R w0 w' A c bs (endAt (p+n) st') p2 er2/\Kx (Only R) w1 w':=by
 obtain⟨m,hm0⟩:∃m,p+n=m:=⟨_,rfl⟩
 rw[hm0]at hn H⊢
 have c0:=h.c0
 have c1:=h.c1
 have f0:=h.fr 0
 have hc:=h.hc
 have hm:=h.hm
 unfold maxLen at hm
 have HH:=hid h
 have HC:Hid (∀W:World,W=w.setCell ⟨R,0,none⟩ (.slice A (m) c)->Calls prog k caps W λe w2=>e=.returned (.tuple #[])/\∃st' p' er',Rst R w0 w2 A c (bs.take (m)) st' p' er'/\QQ st' w2):=hid (λW hW=>by
  rw[hW]
  exact H _ (h.cut (n:=m) (by omega) hn) ((Kx.refl_ (M:=Only R)).setCell (p:=⟨R,0,none⟩) (.inl rfl) _))
 have HL:Hid ((bs.take (m)).length=m):=hid (by rw[qh];omega)
 have b1:(0:Int)<=(p:Int)+(n:Int):=by omega
 have b2:(p:Int)+(n:Int)<=(c:Int):=by omega
 have b3:((p:Int)+(n:Int)).toNat=m:=by omega
 have b4:(p:Int)+(n:Int)<9223372036854775808:=by omega
 refine postL λP hP=>?_
 have HP:=hid hP
 clear hP h H hm0
 go_enter func29,ntmps29
 go_wp2_with fail
 refine(HC.out _ (by cases A<;>simp[Addr.add,b3])).mono ?_
 rintro e w1 ⟨rfl,st1,p1,er1,h1,hq1⟩
 have d0:=h1.c0
 have d1:=h1.c1
 have df:=h1.fr 0
 have hp1:=h1.hp
 rw[HL.out]at d0 hp1
 have H1:=hid h1
 have HQ1:=hid hq1
 clear h1 hq1
 by_cases hlt:p1<m
 ·
  have hlt':(p1:Int)<(m:Int):=by omega
  have HE:=hid (endAt_lt (m:=m) H1.out hlt)
  have HF:=hid (rfail_any (p1:Int) 2 (H1.out.drewN 1))
  have e1:w1.drewN 1=w1.drew:=rfl
  rw[e1]at HF
  go_wp2_with fail
  refine wp_region_held_drew (S:=λw'=>w'.cell? ⟨R,0,none⟩=some (.slice A (m) c)/\w'.cell? ⟨R,1,none⟩=some (.int .i64 p1)) (by kernel_rfl) ⟨d0,d1⟩ (λhHeld=>?_)
  refine rtk 0 24 ?_
  refine rtk 1 25 ?_
  refine rtk 2 26 ?_
  refine rtk 3 27 ?_
  refine rtk 4 28 ?_
  refine rtk 5 29 ?_
  refine rtk 6 30 ?_
  refine rtk 7 31 ?_
  refine rtk 8 32 ?_
  refine rtk 9 33 ?_
  refine wpAnyH_done (by kernel_rfl) ?_ _
  clear hHeld
  go_wp2_with fail
  refine HF.out.mono ?_
  rintro e w2 ⟨rfl,er2,h2,hk2⟩
  have H2:=hid h2
  have g0:=h2.c0
  have gf:=h2.fr 0
  have HK2:=hid hk2
  clear h2 hk2
  go_wp2_with fail
  go_end0
  rw[<-HP.out]
  exact⟨rfl,w1,st1,p1,er1,p1,er2,H1.out,HQ1.out,by rw[HE.out];exact HH.out.uncut H2.out,((Kx.refl_ (M:=Only R) (w:=w1)).drewN 1).trans HK2.out |>.setCell (p:=⟨R,0,none⟩) (.inl rfl) _⟩
 ·
  have hlt':¬(p1:Int)<(m:Int):=by omega
  have HE:=hid (endAt_eq (m:=m) H1.out (by omega))
  go_wp2_with fail
  refine wp_region_held_drew (S:=λw'=>w'.cell? ⟨R,0,none⟩=some (.slice A (m) c)/\w'.cell? ⟨R,1,none⟩=some (.int .i64 p1)) (by kernel_rfl) ⟨d0,d1⟩ (λhHeld=>?_)
  refine rtk 0 24 ?_
  refine rtk 1 25 ?_
  refine rtk 2 26 ?_
  refine rtk 3 27 ?_
  refine rtk 4 28 ?_
  refine rtk 5 29 ?_
  refine rtk 6 30 ?_
  refine rtk 7 31 ?_
  refine rtk 8 32 ?_
  refine rtk 9 33 ?_
  refine wpAnyH_done (by kernel_rfl) ?_ _
  clear hHeld
  go_wp2_with fail
  go_end0
  rw[<-HP.out]
  exact⟨rfl,w1,st1,p1,er1,p1,er1,H1.out,HQ1.out,by rw[HE.out];exact HH.out.uncut (H1.out.drewN 1),((Kx.refl_ (M:=Only R) (w:=w1)).drewN 1).setCell (p:=⟨R,0,none⟩) (.inl rfl) _⟩
end
end Go.Proofs.YteoijlfipmaoeaaGreatDoor
