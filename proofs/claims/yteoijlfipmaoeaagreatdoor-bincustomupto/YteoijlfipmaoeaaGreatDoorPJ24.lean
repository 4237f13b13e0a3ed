import Derived.Test.YteoijlfipmaoeaaGreatDoorPJ23
set_option linter.unusedVariables false
set_option linter.unusedSimpArgs false
set_option maxRecDepth 100000
set_option maxHeartbeats 16000000
namespace Go.Proofs.YteoijlfipmaoeaaGreatDoor
open Lib (hid)
open Go.RowKit Trx
open Go.Proofs.Tryz
section
variable{R:Nat}{w0 w:World}{A:Option Addr}{c:Nat}{bs:List UInt8}{st:Option Nat}{p:Nat}{er:Value}
theorem ft_eq{s1:Option Nat}{r2 r3:Option (List Int×Nat)}(h1:(st.bind λq=>Bin.gOnly 96 bs q).map (·.2)=s1)(h2:(s1.bind λq=>Bin.gList 64 Bin.gType bs q)=r2)(h3:((r2.map (·.2)).bind λq=>Bin.gList 64 Bin.gType bs q)=r3):
  r3.map (·.2)=(st.bind λq=>Bin.gFt bs q).map (·.2)/\∀x q,(st.bind λq=>Bin.gFt bs q)=some (x,q)->∃q2,r2=some (x.1,q2)/\r3=some (x.2,q):=by
 have e:(st.bind λq=>Bin.gFt bs q)=s1.bind λq=>(Bin.bnd (Bin.gList 64 Bin.gType) λa=>Bin.bnd (Bin.gList 64 Bin.gType) λb=>Bin.ret (a,b)) bs q:=by
  rw[<-h1];exact seq_eq rfl
 have e2:(s1.bind λq=>(Bin.bnd (Bin.gList 64 Bin.gType) λa=>Bin.bnd (Bin.gList 64 Bin.gType) λb=>Bin.ret (a,b)) bs q)=r2.bind λx=>(Bin.bnd (Bin.gList 64 Bin.gType) λb=>Bin.ret (x.1,b)) bs x.2:=res_of h2
 rw[e,e2]
 subst h3
 cases r2 with
 |none=>exact⟨rfl,λ_ _ h=>by cases h⟩
 |some y=>
  obtain⟨a,q2⟩:=y
  simp only[Option.bind_some,Option.map_some]
  unfold Bin.bnd
  cases hz:Bin.gList 64 Bin.gType bs q2 with
  |none=>exact⟨rfl,λ_ _ h=>by cases h⟩
  |some z=>
   obtain⟨b,q3⟩:=z
   refine⟨rfl,λx q h=>?_⟩
   obtain⟨rfl,rfl⟩:=Bin.ret_some h
   exact⟨q2,rfl,rfl⟩
theorem c_funcTypes1{X:Nat}(h:Rst R w0 w A c bs st p er)(hX:w.cell? ⟨X,0,none⟩=some (pR R))(hXR:X≠R):
  Calls prog 197 #[.pointer (some ⟨X,0,none⟩)] w (RdE (λx:Ty=>(.agg #[.slice x.p.A x.p.zs.length x.p.c,.slice x.r.A x.r.zs.length x.r.c]:Value)) kTy (FrK Ty.ok) R w0 w A c bs (st.bind λq=>Bin.gFt bs q)):=by
 have HT:=hid (Bk.new h.lt #[.slice none 0 0,.slice none 0 0] 73 _ rfl rfl)
 have HK:Hid (Kx (Only R) w (w.alloc (.cells #[.slice none 0 0,.slice none 0 0] 73))):=hid (Kx.refl_.alloc _)
 have HB:=hid (ronly_any 96 96 rfl (h.alloc (.cells #[.slice none 0 0,.slice none 0 0] 73)))
 have hge:=h.bel.size
 have hRl:=h.lt
 have hXa:=(((Kx.refl_ (M:=λ_=>False)).alloc (.cells #[.slice none 0 0,.slice none 0 0] 73)).cell (by simp) hX)
 have HXn:=hid (show X≠w.heap.size from jb (zn _ _ hX))
 obtain⟨s1,hs1⟩:∃s,(st.bind λq=>Bin.gOnly 96 bs q).map (·.2)=s:=⟨_,rfl⟩
 rw[hs1]at HB
 obtain⟨r2,hr2⟩:∃r,(s1.bind λq=>Bin.gList 64 Bin.gType bs q)=r:=⟨_,rfl⟩
 obtain⟨r3,hr3⟩:∃r,((r2.map (·.2)).bind λq=>Bin.gList 64 Bin.gType bs q)=r:=⟨_,rfl⟩
 have HE:=hid (ft_eq hs1 hr2 hr3)
 have HR2:=hid hr2
 have HR3:=hid hr3
 refine postL λP hP=>?_
 have HP:=hid hP
 clear h hP hs1 hr2 hr3
 unfold RdU at HB
 go_enter func197,ntmps197
 go_wp2_with(first
  |(go_at_call 198;(with_reducible refine HB.out.mono ?_);rintro e w1 ⟨rfl,p1,er1,h1,hk1⟩;have H1:=hid h1;have HX1:=hid (hk1.cell (show¬X=R from hXR) hXa);have HK1:=hid (HK.out.trans hk1);have HT1:=hid (HT.out.kx hk1);clear h1 hk1))
 obtain⟨W1,hW1⟩:∃W1:World,W1=w1.drew:=⟨_,rfl⟩
 have HD1:Hid (Rst R w0 W1 A c bs s1 p1 er1):=hid (by rw[hW1];exact H1.out.drewN 1)
 have HKD:Hid (Kx (Only R) w W1):=hid (by rw[hW1];exact HK1.out.drewN 1)
 have HTD:Hid (Bk R W1 w.heap.size [.slice none 0 0,.slice none 0 0]):=hid (by rw[hW1];exact HT1.out.kx (Kx.refl_.drewN 1))
 have HXD:Hid (W1.cell? ⟨X,0,none⟩=some (pR R)):=hid (by rw[hW1];exact HX1.out)
 refine wp_region_held_drew (S:=λw'=>w'.cell? ⟨X,0,none⟩=some (pR R)) (by kernel_rfl) (by rw[<-hW1];exact HXD.out) (λhHeld=>?_)
 rw[<-hW1]at hHeld⊢
 clear hW1 H1 HK1 HT1 HX1
 refine rtk 0 4 ?_
 refine rtk 2 6 ?_
 refine rcl 1 λK hK=>?_
 go_simp
 refine(rtypes_il HD1.out).mono ?_
 unfold RdI RdQ
 rintro e w2 ⟨v2,p2,er2,rfl,h2,hk2,⟨l2,rfl⟩,hv2⟩
 rw[HR2.out]at h2 hv2
 have H2:=hid h2
 have HK2:=hid (HKD.out.trans hk2)
 have HT2:=hid (HTD.out.kx hk2)
 have HX2:=hid (hk2.cell (show¬X=R from hXR) HXD.out)
 have HV2:=hid hv2
 clear h2 hk2 hv2
 go_wp2_with fail
 refine rbk hK HX2.out λhHeld=>?_;clear hK K
 refine rcl 3 λK hK=>?_
 go_simp
 refine(rtypes_il H2.out).mono ?_
 unfold RdI RdQ
 rintro e w3 ⟨v3,p3,er3,rfl,h3,hk3,⟨l3,rfl⟩,hv3⟩
 rw[HR3.out]at h3 hv3
 have H3:=hid h3
 have HK3:=hid (HK2.out.trans hk3)
 have HKk:=hid hk3
 have HT3:=hid (HT2.out.kx hk3)
 have HX3:=hid (hk3.cell (show¬X=R from hXR) HX2.out)
 have HV3:=hid hv3
 clear h3 hk3 hv3
 go_wp2_with fail
 refine rbk hK HX3.out λhHeld=>?_;clear hK K
 refine rtk 4 8 ?_
 have y0:=HT3.out.cell 0 _ rfl
 have y1:=HT3.out.cell 1 _ rfl
 have g0:=HT3.out.fr 0
 have g1:=HT3.out.fr 1
 have hXl:X≠w.heap.size:=HXn.out
 refine rcl 5 λK hK=>?_
 go_simp
 refine rbk hK ((zk _ _ _ _ (by simp[hXl])).trans ((zk _ _ _ _ (by simp[hXl])).trans HX3.out)) λhHeld=>?_;clear hK K
 refine wpAnyH_done (by kernel_rfl) ?_ _
 clear hHeld
 go_wp2_with fail
 refine bodyPost_ret (v:=.agg #[.slice l2.A l2.zs.length l2.c,.slice l3.A l3.zs.length l3.c]) (by simp[results,results197,go_sem,y0,y1]) rfl ?_
 rw[<-HP.out]
 have hnw:w.heap.size≠R:=HT3.out.ne
 refine⟨_,p3,er3,rfl,((H3.out.setOther hge hnw 0 _).setOther hge hnw 1 _).eq HE.out.1,((HK3.out.setCell (p:=⟨w.heap.size,0,none⟩) (.inr (zq _)) _).setCell (p:=⟨w.heap.size,1,none⟩) (.inr (zq _)) _),⟨⟨l2,l3⟩,rfl⟩,λx q e=>?_⟩
 obtain⟨q2,e2,e3⟩:=HE.out.2 x q e
 obtain⟨k2,f2,f3,f4⟩:=HV2.out _ _ e2
 obtain⟨k3,f5,f6,f7⟩:=HV3.out _ _ e3
 have hRw:R<w.heap.size:=hRl
 have hw1:=HTD.out.lt
 have hw2:=HT2.out.lt
 have hsz3:=HKk.out.size
 refine⟨⟨k2,k3⟩,by show(Value.agg #[l2.v,l3.v])=.agg #[k2.v,k3.v];rw[f2,f5],by rw[kTy];simp[f3,f6],λw4 ha=>⟨?_,?_⟩⟩
 ·refine FrK.moves IL.ok.more _ _ _ _ _ f4 (agr_of_heap λb hb=>((((HKk.out.mono (M':=λb=>b=R\/b=w.heap.size) (λb hb=>.inl hb)).setCell (p:=⟨w.heap.size,0,none⟩) (.inl (.inr rfl)) _).setCell (p:=⟨w.heap.size,1,none⟩) (.inl (.inr rfl)) _).block b hb.2 (by have:=hb.1;omega))) (λb hb=>⟨by have:=hb.1;omega,by simp only[World.size_setCell];exact zj hb.2 hsz3⟩) (by simp only[World.size_setCell];exact hsz3) w4 ha
 ·refine FrK.moves IL.ok.more _ _ _ _ _ f7 (agr_of_heap λb hb=>((((Kx.refl_ (M:=λb=>b=R\/b=w.heap.size)).setCell (p:=⟨w.heap.size,0,none⟩) (.inl (.inr rfl)) _).setCell (p:=⟨w.heap.size,1,none⟩) (.inl (.inr rfl)) _).block b hb.2 (by have:=hb.1;omega))) (λb hb=>⟨by have:=hb.1;omega,by simp only[World.size_setCell];exact hb.2⟩) (by simp only[World.size_setCell];exact zq _) w4 ha
end
theorem seq2_eq{α β γ:Type}{st:Option Nat}{bs:List UInt8}{g1:Bin.Rd α}{g2:Bin.Rd β}(f:α->β->γ){r1:Option (α×Nat)}{r2:Option (β×Nat)}(h1:(st.bind λq=>g1 bs q)=r1)(h2:((r1.map (·.2)).bind λq=>g2 bs q)=r2):
  r2.map (·.2)=(st.bind λq=>(Bin.bnd g1 λa=>Bin.bnd g2 λb=>Bin.ret (f a b)) bs q).map (·.2)/\∀x q,(st.bind λq=>(Bin.bnd g1 λa=>Bin.bnd g2 λb=>Bin.ret (f a b)) bs q)=some (x,q)->∃a q1 b,r1=some (a,q1)/\r2=some (b,q)/\x=f a b:=by
 rw[show(st.bind λq=>(Bin.bnd g1 λa=>Bin.bnd g2 λb=>Bin.ret (f a b)) bs q)=r1.bind λx=>(Bin.bnd g2 λb=>Bin.ret (f x.1 b)) bs x.2 from res_of h1]
 subst h2
 cases r1 with
 |none=>exact⟨rfl,λ_ _ h=>by cases h⟩
 |some y=>
  obtain⟨a,q1⟩:=y
  simp only[Option.bind_some,Option.map_some]
  unfold Bin.bnd
  cases hz:g2 bs q1 with
  |none=>exact⟨rfl,λ_ _ h=>by cases h⟩
  |some z=>
   obtain⟨b,q2⟩:=z
   refine⟨rfl,λx q h=>?_⟩
   obtain⟨rfl,rfl⟩:=Bin.ret_some h
   exact⟨a,q1,b,rfl,rfl,rfl⟩
theorem seq3_eq{α β γ δ:Type}{st:Option Nat}{bs:List UInt8}{g1:Bin.Rd α}{g2:Bin.Rd β}{g3:Bin.Rd γ}(f:α->β->γ->δ){r1:Option (α×Nat)}{r2:Option (β×Nat)}{r3:Option (γ×Nat)}(h1:(st.bind λq=>g1 bs q)=r1)(h2:((r1.map (·.2)).bind λq=>g2 bs q)=r2)(h3:((r2.map (·.2)).bind λq=>g3 bs q)=r3):
  r3.map (·.2)=(st.bind λq=>(Bin.bnd g1 λa=>Bin.bnd g2 λb=>Bin.bnd g3 λc=>Bin.ret (f a b c)) bs q).map (·.2)/\∀x q,(st.bind λq=>(Bin.bnd g1 λa=>Bin.bnd g2 λb=>Bin.bnd g3 λc=>Bin.ret (f a b c)) bs q)=some (x,q)->∃a q1 b q2 c,r1=some (a,q1)/\r2=some (b,q2)/\r3=some (c,q)/\x=f a b c:=by
 rw[show(st.bind λq=>(Bin.bnd g1 λa=>Bin.bnd g2 λb=>Bin.bnd g3 λc=>Bin.ret (f a b c)) bs q)=r1.bind λx=>(Bin.bnd g2 λb=>Bin.bnd g3 λc=>Bin.ret (f x.1 b c)) bs x.2 from res_of h1]
 subst h3 h2
 cases r1 with
 |none=>exact⟨rfl,λ_ _ h=>by cases h⟩
 |some y=>
  obtain⟨a,q1⟩:=y
  simp only[Option.bind_some,Option.map_some]
  unfold Bin.bnd
  cases hz:g2 bs q1 with
  |none=>exact⟨rfl,λ_ _ h=>by cases h⟩
  |some z=>
   obtain⟨b,q2⟩:=z
   simp only[Option.bind_some,Option.map_some]
   cases hy:g3 bs q2 with
   |none=>exact⟨rfl,λ_ _ h=>by cases h⟩
   |some u=>
    obtain⟨cc,q3⟩:=u
    refine⟨rfl,λx q h=>?_⟩
    obtain⟨rfl,rfl⟩:=Bin.ret_some h
    exact⟨a,q1,b,q2,cc,rfl,rfl,rfl,rfl⟩
theorem len_cnt9(f:Fo):len f<=cnt f:=by
 induction f with
 |nil=>simp[len,nds]
 |cons op a b v t L body els he next _ _ h3=>
  simp only[len,nds,zl,cnt]at h3⊢
  omega
theorem light_lsh(f:Fo)(h:lsh f=true)(hc:cnt f<=100000):Light f:=by
 induction f with
 |nil=>trivial
 |cons op a b v t L body els he next h1 h2 h3=>
  simp only[lsh,zp,decide_eq_true_eq]at h
  simp only[cnt]at hc
  have e1:=len_cnt9 body
  have e2:=len_cnt9 els
  refine⟨⟨?_,by unfold RB;omega,by unfold RB;omega⟩,h1 h.1.1.2 (by omega),h2 h.1.2 (by omega),h3 h.2 (by omega)⟩
  have:=h.1.1.1
  unfold RB
  omega
theorem sOne_light{n:Nd}(h:Bin.sOne n):LightN n:=(light_lsh _ h.lsh (zy h.cnt (by decide))).mem (by simp)
theorem FrI.in_{lo:Nat}{w:World}{v:Value}{n:Nd}(h:FrI lo w v n)(hl:LightN n):∃i:In,v=inA i/\i.n=n/\FrK In.ok (Win lo w) w i:=by
 obtain⟨i,h1,h2,h3⟩:=h
 exact⟨i,h1,h2,λw2 ha=>⟨h3 w2 ha,by rw[h2];exact hl⟩⟩
theorem In.ok.more(w:World)(B B':Nat)(l:In)(h:l.ok w B)(hB:B<=B'):l.ok w B':=h.keep hB (λ_ _ _=>rfl)
theorem Bk.set{R b:Nat}{w:World}{vals:List Value}(h:Bk R w b vals)(i:Nat)(x:Value)(hi:i<vals.length):Bk R (w.setCell ⟨b,i,none⟩ x) b (vals.set i x):=by
 refine⟨λj y hj=>?_,λj=>(za _ _ _ _).trans (h.fr j),h.ne,by simpa[World.setCell]using h.lt⟩
 by_cases e:i=j
 ·
  subst e
  rw[List.getElem?_set_self hi]at hj
  injection hj with hj
  subst hj
  exact ze _ _ _ (h.cell i _ (zb hi))
 ·
  rw[List.getElem?_set_ne e]at hj
  exact(zk _ _ _ _ (by first|(simp;done)|(simp;omega))).trans (h.cell j y hj)
theorem Bk.setOther{R b:Nat}{w:World}{vals:List Value}(h:Bk R w b vals){n:Nat}(hn:n≠b)(i:Nat)(x:Value):Bk R (w.setCell ⟨n,i,none⟩ x) b vals:=
 ⟨λj y hj=>(zk _ _ _ _ (by first|(simp;done)|(simp;omega))).trans (h.cell j y hj),λj=>(za _ _ _ _).trans (h.fr j),h.ne,by simpa[World.setCell]using h.lt⟩
section
variable{st:Option Nat}{bs:List UInt8}
theorem im_eq{ta tb:ByteArray}{tk:Int}{r1 r2:Option (ByteArray×Nat)}{r3:Option (Int×Nat)}(h1:(st.bind λq=>Bin.gName bs q)=r1)(h2:((r1.map (·.2)).bind λq=>Bin.gName bs q)=r2)(h3:((r2.map (·.2)).bind λq=>Bin.gKind bs q)=r3)
  (ha:∀x q,r1=some (x,q)->x=ta) (hb:∀x q,r2=some (x,q)->x=tb) (hk:∀x q,r3=some (x,q)->x=tk):
  (st.bind λq=>Bin.gIm bs q)=(r3.map (·.2)).bind λq=>Bin.gImp ta tb tk bs q:=by
 unfold Bin.gIm
 rw[res_of h1]
 cases r1 with
 |none=>subst h2;subst h3;rfl
 |some y=>
  obtain⟨a,q1⟩:=y
  have e1:=ha a q1 rfl
  subst e1
  dsimp only[Option.bind_some]
  have h2':((some q1).bind λq=>Bin.gName bs q)=r2:=h2
  have e2:=res_of (k:=λb=>Bin.bnd Bin.gKind λk=>Bin.gImp a b k) h2'
  rw[Option.bind_some]at e2
  rw[e2]
  cases r2 with
  |none=>subst h3;rfl
  |some z=>
   obtain⟨b,q2⟩:=z
   have e3:=hb b q2 rfl
   subst e3
   dsimp only[Option.bind_some]
   have h3':((some q2).bind λq=>Bin.gKind bs q)=r3:=h3
   have e4:=res_of (k:=λk=>Bin.gImp a b k) h3'
   rw[Option.bind_some]at e4
   rw[e4]
   cases r3 with
   |none=>rfl
   |some u=>
    obtain⟨k,q3⟩:=u
    have e5:=hk k q3 rfl
    subst e5
    rfl
theorem im_0{a b:ByteArray}{r:Option (Int×Nat)}(h:(st.bind λq=>Bin.gNum bs q)=r):(st.bind λq=>Bin.gImp a b 0 bs q)=r.map λx=>((⟨a,b,0,x.1,false,Bin.zLm⟩:Im),x.2):=by
 have e:Bin.gImp a b 0=Bin.bnd Bin.gNum λt=>Bin.ret ⟨a,b,0,t,false,Bin.zLm⟩:=by unfold Bin.gImp;rw[if_pos rfl]
 rw[e,res_of h]
 cases r<;>rfl
theorem im_1{a b:ByteArray}{r:Option (Lm×Nat)}(h:(st.bind λq=>Bin.gTab bs q)=r):(st.bind λq=>Bin.gImp a b 1 bs q)=r.map λx=>((⟨a,b,1,0,false,x.1⟩:Im),x.2):=by
 have e:Bin.gImp a b 1=Bin.bnd Bin.gTab λl=>Bin.ret ⟨a,b,1,0,false,l⟩:=by unfold Bin.gImp;rw[if_neg (by decide),if_pos rfl]
 rw[e,res_of h]
 cases r<;>rfl
theorem im_2{a b:ByteArray}{r:Option (Lm×Nat)}(h:(st.bind λq=>Bin.gLim bs q)=r):(st.bind λq=>Bin.gImp a b 2 bs q)=r.map λx=>((⟨a,b,2,0,false,x.1⟩:Im),x.2):=by
 have e:Bin.gImp a b 2=Bin.bnd Bin.gLim λl=>Bin.ret ⟨a,b,2,0,false,l⟩:=by unfold Bin.gImp;rw[if_neg (by decide),if_neg (by decide),if_pos rfl]
 rw[e,res_of h]
 cases r<;>rfl
theorem im_3{a b:ByteArray}{r:Option (Int×Nat)}{r2:Option (Bool×Nat)}(h:(st.bind λq=>Bin.gType bs q)=r)(h2:((r.map (·.2)).bind λq=>Bin.gFlag bs q)=r2):
  r2.map (·.2)=(st.bind λq=>Bin.gImp a b 3 bs q).map (·.2)/\∀x q,(st.bind λq=>Bin.gImp a b 3 bs q)=some (x,q)->∃t q1 u,r=some (t,q1)/\r2=some (u,q)/\x=⟨a,b,3,t,u,Bin.zLm⟩:=by
 have e:Bin.gImp a b 3=Bin.bnd Bin.gType λt=>Bin.bnd Bin.gFlag λu=>Bin.ret ⟨a,b,3,t,u,Bin.zLm⟩:=by unfold Bin.gImp;rw[if_neg (by decide),if_neg (by decide),if_neg (by decide)]
 rw[e]
 exact seq2_eq (λt u=>(⟨a,b,3,t,u,Bin.zLm⟩:Im)) h h2
theorem kind_le{x:Int}{q:Nat}(h:(st.bind λq=>Bin.gKind bs q)=some (x,q)):0<=x/\x<=3:=by
 rw[gKind_eq]at h
 obtain⟨z,hz,rfl⟩:=map_some (f:=λx:UInt8=>((x.toNat:Nat):Int)) h
 cases st with
 |none=>cases hz
 |some q0=>
  rw[Option.bind_some]at hz
  unfold Bin.gUp at hz
  obtain⟨y,q1,-,h2⟩:=Bin.bnd_some hz
  split at h2
  ·
   obtain⟨rfl,rfl⟩:=Bin.ret_some h2
   omega
  ·cases h2
theorem im_got{i:Im}(h:(Bin.pIm i).2=true/\Bin.sIm i):StrOk i.md/\StrOk i.nm:=by
 obtain⟨-,h1,h2⟩:=h
 unfold Bin.sName at h1 h2
 have e1:=size_list i.md
 have e2:=size_list i.nm
 exact⟨⟨by unfold maxLen;omega,by unfold RB;omega⟩,⟨by unfold maxLen;omega,by unfold RB;omega⟩⟩
end
section
variable{R:Nat}{w0 w:World}{A:Option Addr}{c:Nat}{bs:List UInt8}{st:Option Nat}{p:Nat}{er:Value}
theorem run_le{r1:Option (Int×Nat)}{r2:Option (Int×Nat)}{n:Int}{room:Nat}(h1:(st.bind λq=>Bin.gNum bs q)=r1)(h2:((r1.map (·.2)).bind λq=>Bin.gType bs q)=r2)(hv:∀x q,r1=some (x,q)->x=n)(hle:n<=room):
  (st.bind λq=>Bin.gRun room bs q)=r2.map λx=>((n.toNat,x.1),x.2):=by
 unfold Bin.gRun
 rw[res_of h1]
 cases r1 with
 |none=>subst h2;rfl
 |some y=>
  obtain⟨y,q⟩:=y
  have:=hv y q rfl
  subst this
  dsimp only[Option.bind_some]
  rw[if_pos hle]
  have h2':((some q).bind λq=>Bin.gType bs q)=r2:=h2
  have e:=res_of (k:=λt=>Bin.ret (y.toNat,t)) h2'
  rw[Option.bind_some]at e
  rw[e]
  cases r2<;>rfl
theorem run_gt{r1:Option (Int×Nat)}{n:Int}{room:Nat}(h1:(st.bind λq=>Bin.gNum bs q)=r1)(hv:∀x q,r1=some (x,q)->x=n)(hle:¬n<=room):(st.bind λq=>Bin.gRun room bs q)=none:=by
 unfold Bin.gRun
 rw[res_of h1]
 cases r1 with
 |none=>rfl
 |some y=>
  obtain⟨y,q⟩:=y
  have:=hv y q rfl
  subst this
  dsimp only[Option.bind_some]
  rw[if_neg hle]
  rfl
theorem c_locals1{X M room:Nat}(h:Rst R w0 w A c bs st p er)(hX:w.cell? ⟨X,0,none⟩=some (pR R))(hXR:X≠R)(hM:Rm M w room)(hMR:M≠R)(hXM:X≠M)(hge:w0.heap.size<=M)(hroom:room<=64):
  Calls prog 239 #[.pointer (some ⟨X,0,none⟩),.pointer (some ⟨M,0,none⟩)] w (RdRn R M w0 w A c bs room (st.bind λq=>Bin.gRun room bs q)):=by
 have hsz:=h.bel.size
 have hXl:=zn _ _ hX
 have hMl:=hM.lt
 have hRl:=h.lt
 obtain⟨W0,hW0⟩:∃W0:World,W0=w.alloc (.cells #[.int .i64 0,.int .i64 0] 224):=⟨_,rfl⟩
 have HT:Hid (Bk R W0 w.heap.size [.int .i64 0,.int .i64 0]):=hid (by rw[hW0];exact Bk.new h.lt #[.int .i64 0,.int .i64 0] 224 _ rfl rfl)
 have HK:Hid (Kx (Two R M) w W0):=hid (by rw[hW0];exact Kx.refl_.alloc _)
 have HA:Hid (Rst R w0 W0 A c bs st p er):=hid (by rw[hW0];exact h.alloc _)
 have HX:Hid (W0.cell? ⟨X,0,none⟩=some (pR R)):=hid (by rw[hW0];exact((Kx.refl_ (M:=λ_=>False)).alloc _).cell (by simp) hX)
 have HM:Hid (Rm M W0 room):=hid (by rw[hW0];exact hM.kx ((Kx.refl_ (M:=λ_=>False)).alloc _) (by simp))
 obtain⟨r1,hr1⟩:∃r,(st.bind λq=>Bin.gNum bs q)=r:=⟨_,rfl⟩
 have HR1:=hid hr1
 obtain⟨res,hres⟩:∃res,(st.bind λq=>Bin.gRun room bs q)=res:=⟨_,rfl⟩
 rw[hres]
 have HRes:=hid hres
 have HMR:=hid hMR
 have HXM:=hid hXM
 have HXR:=hid hXR
 refine postL λP hP=>?_
 have HP:=hid hP
 have p0:=h.c1
 clear h hM hP hr1 hres hMR hXM hXR
 go_enter func239,ntmps239
 go_wp2_with fail
 rw[<-hW0]
 clear hW0
 refine(rnumber_any HA.out).mono ?_
 unfold RdQ
 rintro e w1 ⟨v1,p1,er1,rfl,h1,hk1,⟨n,rfl,hn0,hn1⟩,hv1⟩
 rw[HR1.out]at h1 hv1
 have H1:=hid h1
 have HK1:=hid (HK.out.trans hk1.two)
 have HT1:=hid (HT.out.kx hk1)
 have HX1:=hid (hk1.cell (show¬X=R from HXR.out) HX.out)
 have HM1:=hid (HM.out.kx hk1 (show¬M=R from HMR.out))
 have HV1:=hid (λx q e=>(i64_inj (hv1 x q e)).symm)
 have x1:=HX1.out
 have m1:=HM1.out.cell
 have mf:=HM1.out.fr
 clear h1 hk1 hv1 hX p0
 have hXM2:X≠M:=HXM.out
 have hMX2:M≠X:=Ne.symm HXM.out
 have hMN:M≠w.heap.size:=jb hMl
 have hNM:w.heap.size≠M:=Ne.symm hMN
 by_cases hgt:n<=room
 ·
  have hgt':¬(n>(room:Int)):=by omega
  have HE:=hid (run_le HR1.out rfl HV1.out hgt)
  rw[HRes.out]at HE
  go_wp2_with fail
  obtain⟨W,hW⟩:∃W:World,W=w1.setCell ⟨M,0,none⟩ (.int .i64 ((room:Int)-n)):=⟨_,rfl⟩
  have H5:Hid (Rst R w0 W A c bs _ _ _):=hid (by rw[hW];exact H1.out.setOther hge HMR.out 0 _)
  have HK5:Hid (Kx (Two R M) w W):=hid (by rw[hW];exact HK1.out.setCell (p:=⟨M,0,none⟩) (.inl (.inr rfl)) _)
  have HT5:Hid (Bk R W w.heap.size [.int .i64 0,.int .i64 0]):=hid (by rw[hW];exact HT1.out.setOther hMN 0 _)
  have HM5:Hid (Rm M W ((room:Int)-n)):=hid (by rw[hW];exact HM1.out.set _)
  rw[<-hW]
  clear hW
  refine(rtype_any H5.out).mono ?_
  unfold RdQ
  rintro e w6 ⟨v6,p6,er6,rfl,h6,hk6,⟨t,rfl⟩,hv6⟩
  have H6:=hid h6
  have HK6:=hid (HK5.out.trans hk6.two)
  have HT6:=hid (HT5.out.kx hk6)
  have HM6:=hid (HM5.out.kx hk6 (show¬M=R from HMR.out))
  have HV6:=hid hv6
  have y0:=HT6.out.cell 0 _ rfl
  have y1:=HT6.out.cell 1 _ rfl
  have g0:=HT6.out.fr 0
  have g1:=HT6.out.fr 1
  clear h6 hk6 hv6
  go_wp2_with fail
  refine bodyPost_ret (v:=.agg #[.int .i64 n,.int .i64 t]) (by simp[results,results239,go_sem,y0,y1]) rfl ?_
  rw[<-HP.out]
  have hnw:w.heap.size≠R:=HT6.out.ne
  exact⟨n,t,p6,er6,rfl,(((H6.out.setOther hsz hnw 0 _).setOther hsz hnw 1 _)).eq (by rw[HE.out];exact map_st (λx:Int=>(n.toNat,x))),((HK6.out.setCell (p:=⟨w.heap.size,0,none⟩) (.inr (zq _)) _).setCell (p:=⟨w.heap.size,1,none⟩) (.inr (zq _)) _),((HM6.out.setOther hNM 0 _).setOther hNM 1 _),λx q e=>(by rw[HE.out]at e;obtain⟨z,hz,rfl⟩:=map_some (f:=λx:Int=>(n.toNat,x)) e;exact⟨(by show n=((n.toNat:Nat):Int);omega),i64_inj (HV6.out _ _ hz),(by show n.toNat<=room;omega)⟩)⟩
 ·
  have hgt':n>(room:Int):=by omega
  have HE:=hid (run_gt HR1.out HV1.out hgt)
  rw[HRes.out]at HE
  go_wp2_with fail
  refine(rfail_any (p:Int) 7 H1.out).mono ?_
  rintro e w2 ⟨rfl,er2,h2,hk2⟩
  have H2:=hid h2
  have HK2:=hid (HK1.out.trans hk2.two)
  have HT2:=hid (HT1.out.kx hk2)
  have HX2:=hid (hk2.cell (show¬X=R from HXR.out) HX1.out)
  have HM2:=hid (HM1.out.kx hk2 (show¬M=R from HMR.out))
  have x2:=HX2.out
  have m2:=HM2.out.cell
  have mf2:=HM2.out.fr
  clear h2 hk2
  go_wp2_with fail
  obtain⟨W,hW⟩:∃W:World,W=w2.setCell ⟨M,0,none⟩ (.int .i64 ((room:Int)-n)):=⟨_,rfl⟩
  have H5:Hid (Rst R w0 W A c bs _ _ _):=hid (by rw[hW];exact H2.out.setOther hge HMR.out 0 _)
  have HK5:Hid (Kx (Two R M) w W):=hid (by rw[hW];exact HK2.out.setCell (p:=⟨M,0,none⟩) (.inl (.inr rfl)) _)
  have HT5:Hid (Bk R W w.heap.size [.int .i64 0,.int .i64 0]):=hid (by rw[hW];exact HT2.out.setOther hMN 0 _)
  have HM5:Hid (Rm M W ((room:Int)-n)):=hid (by rw[hW];exact HM2.out.set _)
  rw[<-hW]
  clear hW
  refine(rtype_any H5.out).mono ?_
  unfold RdQ
  rintro e w6 ⟨v6,p6,er6,rfl,h6,hk6,⟨t,rfl⟩,hv6⟩
  have H6:=hid h6
  have HK6:=hid (HK5.out.trans hk6.two)
  have HT6:=hid (HT5.out.kx hk6)
  have HM6:=hid (HM5.out.kx hk6 (show¬M=R from HMR.out))
  have HV6:=hid hv6
  have y0:=HT6.out.cell 0 _ rfl
  have y1:=HT6.out.cell 1 _ rfl
  have g0:=HT6.out.fr 0
  have g1:=HT6.out.fr 1
  clear h6 hk6 hv6
  go_wp2_with fail
  refine bodyPost_ret (v:=.agg #[.int .i64 n,.int .i64 t]) (by simp[results,results239,go_sem,y0,y1]) rfl ?_
  rw[<-HP.out]
  have hnw:w.heap.size≠R:=HT6.out.ne
  exact⟨n,t,p6,er6,rfl,(((H6.out.setOther hsz hnw 0 _).setOther hsz hnw 1 _)).eq (by rw[HE.out];rfl),((HK6.out.setCell (p:=⟨w.heap.size,0,none⟩) (.inr (zq _)) _).setCell (p:=⟨w.heap.size,1,none⟩) (.inr (zq _)) _),((HM6.out.setOther hNM 0 _).setOther hNM 1 _),λx q e=>(by rw[HE.out]at e;cases e)⟩
end
section
variable{R:Nat}{w0 w:World}{A:Option Addr}{c:Nat}{bs:List UInt8}{st:Option Nat}{p:Nat}{er:Value}
theorem c_globals1{X:Nat}(hN:Nam w0)(h:Rst R w0 w A c bs st p er)(hX:w.cell? ⟨X,0,none⟩=some (pR R))(hXR:X≠R):
  Calls prog 206 #[.pointer (some ⟨X,0,none⟩)] w (RdE (λx:Gl=>(.agg #[.int .i64 x.ty,.bool x.mu,.int .i64 x.i.n.op,.int .i64 x.i.n.a,.int .i64 x.i.n.b,.int .u64 x.i.n.v,.int .i64 x.i.n.t,.slice x.i.p.AL x.i.n.L.length x.i.p.cL,.slice x.i.p.Ab (len x.i.n.body) x.i.p.cb,.slice x.i.p.Ae (len x.i.n.els) x.i.p.ce,.bool x.i.n.he]:Value)) kGl (FrK Gl.ok) R w0 w A c bs (st.bind λq=>Bin.gGl bs q)):=by
 have HN:=hid (Rz.newD h hX [.int .i64 0,.bool false,.int .i64 0,.int .i64 0,.int .i64 0,.int .u64 0,.int .i64 0,.slice none 0 0,.slice none 0 0,.slice none 0 0,.bool false] 61)
 have hge:=h.bel.size
 have hRl:=h.lt
 have HXn:=hid (show X≠w.heap.size from jb (zn _ _ hX))
 obtain⟨r1,hr1⟩:∃r,(st.bind λq=>Bin.gType bs q)=r:=⟨_,rfl⟩
 obtain⟨r2,hr2⟩:∃r,((r1.map (·.2)).bind λq=>Bin.gFlag bs q)=r:=⟨_,rfl⟩
 obtain⟨r3,hr3⟩:∃r,((r2.map (·.2)).bind λq=>Bin.gOne bs q)=r:=⟨_,rfl⟩
 have HE:=hid (seq3_eq (λ(t:Int) (u:Bool) (n:Nd)=>(t,u,n)) hr1 hr2 hr3)
 have HG:=hid (λx q (e:(st.bind λq=>Bin.gGl bs q)=some (x,q))=>h.got Bin.gl_got e)
 have HR1:=hid hr1
 have HR2:=hid hr2
 have HR3:=hid hr3
 have HNm:=hid hN
 refine postL λP hP=>?_
 have HP:=hid hP
 clear h hP hr1 hr2 hr3 hN
 go_enter func206,ntmps206
 go_wp2_with fail
 obtain⟨W1,hW1,s1⟩:=HN.out
 have S1:=hid s1
 refine wp_region_held_drew (S:=λw'=>w'.cell? ⟨X,0,none⟩=some (pR R)) (by kernel_rfl) (by rw[<-hW1];exact S1.out.x) (λhHeld=>?_)
 rw[<-hW1]at hHeld⊢
 clear hW1 s1 HN
 refine rtk 0 2 ?_
 refine rtk 2 4 ?_
 refine rtk 4 6 ?_
 refine rcl 1 λK hK=>?_
 go_simp
 refine(rtype_any S1.out.r).mono ?_
 unfold RdQ
 rintro e w2 ⟨v2,p2,er2,rfl,h2,hk2,⟨t2,rfl⟩,hv2⟩
 rw[HR1.out]at h2 hv2
 have S2:=hid (S1.out.step hXR h2 hk2)
 have HV2:=hid hv2
 clear h2 hk2 hv2
 go_wp2_with fail
 refine rbk hK S2.out.x λhHeld=>?_;clear hK K
 refine rcl 3 λK hK=>?_
 go_simp
 refine(rflag_any S2.out.r).mono ?_
 unfold RdQ
 rintro e w3 ⟨v3,p3,er3,rfl,h3,hk3,⟨t3,rfl⟩,hv3⟩
 rw[HR2.out]at h3 hv3
 have S3:=hid (S2.out.step hXR h3 hk3)
 have HV3:=hid hv3
 clear h3 hk3 hv3
 go_wp2_with fail
 refine rbk hK S3.out.x λhHeld=>?_;clear hK K
 refine rcl 5 λK hK=>?_
 go_simp
 refine(rone_any HNm.out S3.out.r).mono ?_
 unfold RdQ
 rintro e w4 ⟨v4,p4,er4,rfl,h4,hk4,⟨t4,rfl⟩,hv4⟩
 rw[HR3.out]at h4 hv4
 have S4:=hid (S3.out.step hXR h4 hk4)
 have HKk:=hid hk4
 have HV4:=hid hv4
 clear h4 hk4 hv4
 unfold inA
 go_wp2_with fail
 refine rbk hK S4.out.x λhHeld=>?_;clear hK K
 refine rtk 6 8 ?_
 have Y:=S4.out.b.all
 simp only[Bk.A,Nat.reduceAdd,and_true]at Y
 obtain⟨y0,g0,y1,g1,y2,g2,y3,g3,y4,g4,y5,g5,y6,g6,y7,g7,y8,g8,y9,g9,y10,g10⟩:=Y
 have hXl:X≠w.heap.size:=HXn.out
 refine rcl 7 λK hK=>?_
 go_simp
 refine rbk hK (by simp[zk,hXl,Ne.symm hXl,S4.out.x]) λhHeld=>?_;clear hK K
 refine wpAnyH_done (by kernel_rfl) ?_ _
 clear hHeld
 go_wp2_with fail
 refine bodyPost_ret (v:=.agg #[.int .i64 t2,.bool t3,.int .i64 t4.n.op,.int .i64 t4.n.a,.int .i64 t4.n.b,.int .u64 t4.n.v,.int .i64 t4.n.t,.slice t4.p.AL t4.n.L.length t4.p.cL,.slice t4.p.Ab (len t4.n.body) t4.p.cb,.slice t4.p.Ae (len t4.n.els) t4.p.ce,.bool t4.n.he]) (by simp[results,results206,go_sem,y0,y1,y2,y3,y4,y5,y6,y7,y8,y9,y10]) rfl ?_
 rw[<-HP.out]
 have hnw:w.heap.size≠R:=S4.out.b.ne
 refine⟨_,p4,er4,rfl,Rst.eq (by(repeat refine Rst.setOther ?_ hge hnw _ _);exact S4.out.r) HE.out.1,by(repeat refine Kx.setCell ?_ (.inr (zq _)) _);exact S4.out.k,⟨⟨t2,t3,t4⟩,rfl⟩,λx q e=>?_⟩
 obtain⟨a,q1,b,q2,n,e2,e3,e4,rfl⟩:=HE.out.2 x q e
 have hg:=HG.out _ _ e
 obtain⟨k4,f4,f5,f6⟩:=(HV4.out _ _ e4).in_ (sOne_light hg.2)
 have f2:=i64_inj (HV2.out _ _ e2)
 have f3:t3=b:=by have:=HV3.out _ _ e3;injection this
 subst f2 f3
 have hw4:=S3.out.b.lt
 refine⟨⟨t2,t3,k4⟩,?_,by rw[kGl,f5],λw5 ha=>⟨?_,?_⟩⟩
 ·
  have f4':inA t4=inA k4:=f4
  have e9:=congrArg (λv=>match v with|.agg a=>Value.agg (#[Value.int .i64 t2,Value.bool t3]++a)|_=>v) f4'
  simpa[inA]using e9
 ·
  have h9:=hg.1
  simp only[Bin.pGl,Bin.cat,zp]at h9
  have h8:(Bin.pType t2).2=true:=by first|exact h9.1|exact h9.1.1
  rcases Bin.type_of h8 with⟨e8,-⟩|⟨e8,-⟩<;>(show inI t2;rw[e8];unfold inI;omega)
 ·refine FrK.moves In.ok.more _ _ _ _ _ f6 (agr_of_heap λb hb=>Kx.block (M:=λb=>b=R\/b=w.heap.size) (by(repeat refine Kx.setCell ?_ (.inl (.inr rfl)) _);exact Kx.refl_) b hb.2 (by have:=hb.1;omega)) (λb hb=>⟨by have:=hb.1;omega,by simp only[World.size_setCell];exact hb.2⟩) (by simp only[World.size_setCell];exact zq _) w5 ha
end
section
variable{R:Nat}{w0 w:World}{A:Option Addr}{c:Nat}{bs:List UInt8}{st:Option Nat}{p:Nat}{er:Value}
theorem c_Da1{X:Nat}(hN:Nam w0)(h:Rst R w0 w A c bs st p er)(hX:w.cell? ⟨X,0,none⟩=some (pR R))(hXR:X≠R):
  Calls prog 220 #[.pointer (some ⟨X,0,none⟩)] w (RdE (λx:Da=>(.agg #[.int .i64 x.i.n.op,.int .i64 x.i.n.a,.int .i64 x.i.n.b,.int .u64 x.i.n.v,.int .i64 x.i.n.t,.slice x.i.p.AL x.i.n.L.length x.i.p.cL,.slice x.i.p.Ab (len x.i.n.body) x.i.p.cb,.slice x.i.p.Ae (len x.i.n.els) x.i.p.ce,.bool x.i.n.he,.slice x.bs.A x.bs.bs.length x.bs.c]:Value)) kDa (FrK Da.ok) R w0 w A c bs (st.bind λq=>Bin.gDa bs q)):=by
 have hn:=Rz.new h hX [.int .i64 0,.int .i64 0,.int .i64 0,.int .u64 0,.int .i64 0,.slice none 0 0,.slice none 0 0,.slice none 0 0,.bool false,.slice none 0 0] 65
 have HB:=hid (rplace_any hn.r)
 have hXa:=hn.x
 have HN:=hid hn
 have hge:=h.bel.size
 have hRl:=h.lt
 have HXn:=hid (show X≠w.heap.size from jb (zn _ _ hX))
 obtain⟨s1,hs1⟩:∃s,(st.bind λq=>Bin.gZero bs q).map (·.2)=s:=⟨_,rfl⟩
 rw[hs1]at HB
 obtain⟨r2,hr2⟩:∃r,(s1.bind λq=>Bin.gOne bs q)=r:=⟨_,rfl⟩
 obtain⟨r3,hr3⟩:∃r,((r2.map (·.2)).bind λq=>Bin.gList 4096 Bin.gByte bs q)=r:=⟨_,rfl⟩
 have he:(st.bind λq=>Bin.gDa bs q)=s1.bind λq=>(Bin.bnd Bin.gOne λn=>Bin.bnd (Bin.gList 4096 Bin.gByte) λl=>Bin.ret (n,l)) bs q:=by
  rw[<-hs1];exact seq_eq rfl
 have HE:=hid (seq2_eq (λn l=>(n,l)) hr2 hr3)
 rw[<-he]at HE
 have HG:=hid (λx q (e:(st.bind λq=>Bin.gDa bs q)=some (x,q))=>h.got Bin.da_got e)
 have HR2:=hid hr2
 have HR3:=hid hr3
 have HNm:=hid hN
 refine postL λP hP=>?_
 have HP:=hid hP
 clear h hP hs1 hr2 hr3 hN he hn
 unfold RdU at HB
 go_enter func220,ntmps220
 go_wp2_with(first
  |(go_at_call 212;(with_reducible refine HB.out.mono ?_);rintro e w1 ⟨rfl,p1,er1,h1,hk1⟩;have S1:=hid (HN.out.step hXR h1 hk1).drew;clear h1 hk1))
 obtain⟨W1,hW1⟩:∃W1:World,W1=w1.drew:=⟨_,rfl⟩
 rw[<-hW1]at S1
 refine wp_region_held_drew (S:=λw'=>w'.cell? ⟨X,0,none⟩=some (pR R)) (by kernel_rfl) (by rw[<-hW1];exact S1.out.x) (λhHeld=>?_)
 rw[<-hW1]at hHeld⊢
 clear hW1 HN
 refine rtk 0 4 ?_
 refine rtk 2 6 ?_
 refine rcl 1 λK hK=>?_
 go_simp
 refine(rone_any HNm.out S1.out.r).mono ?_
 unfold RdQ
 rintro e w2 ⟨v2,p2,er2,rfl,h2,hk2,⟨t2,rfl⟩,hv2⟩
 rw[HR2.out]at h2 hv2
 have S2:=hid (S1.out.step hXR h2 hk2)
 have HV2:=hid hv2
 clear h2 hk2 hv2
 unfold inA
 go_wp2_with fail
 refine rbk hK S2.out.x λhHeld=>?_;clear hK K
 refine rcl 3 λK hK=>?_
 go_simp
 refine(rbytes_bl 4096 4096 rfl (by omega) S2.out.r).mono ?_
 unfold RdB RdQ
 rintro e w3 ⟨v3,p3,er3,rfl,h3,hk3,⟨l3,rfl⟩,hv3⟩
 rw[HR3.out]at h3 hv3
 have S3:=hid (S2.out.step hXR h3 hk3)
 have HKk:=hid hk3
 have HV3:=hid hv3
 clear h3 hk3 hv3
 go_wp2_with fail
 refine rbk hK S3.out.x λhHeld=>?_;clear hK K
 refine rtk 4 8 ?_
 have Y:=S3.out.b.all
 simp only[Bk.A,Nat.reduceAdd,and_true]at Y
 obtain⟨y0,g0,y1,g1,y2,g2,y3,g3,y4,g4,y5,g5,y6,g6,y7,g7,y8,g8,y9,g9⟩:=Y
 have hXl:X≠w.heap.size:=HXn.out
 refine rcl 5 λK hK=>?_
 go_simp
 refine rbk hK (by simp[zk,hXl,Ne.symm hXl,S3.out.x]) λhHeld=>?_;clear hK K
 refine wpAnyH_done (by kernel_rfl) ?_ _
 clear hHeld
 go_wp2_with fail
 refine bodyPost_ret (v:=.agg #[.int .i64 t2.n.op,.int .i64 t2.n.a,.int .i64 t2.n.b,.int .u64 t2.n.v,.int .i64 t2.n.t,.slice t2.p.AL t2.n.L.length t2.p.cL,.slice t2.p.Ab (len t2.n.body) t2.p.cb,.slice t2.p.Ae (len t2.n.els) t2.p.ce,.bool t2.n.he,.slice l3.A l3.bs.length l3.c]) (by simp[results,results220,go_sem,y0,y1,y2,y3,y4,y5,y6,y7,y8,y9]) rfl ?_
 rw[<-HP.out]
 have hnw:w.heap.size≠R:=S3.out.b.ne
 refine⟨_,p3,er3,rfl,Rst.eq (by(repeat refine Rst.setOther ?_ hge hnw _ _);exact S3.out.r) HE.out.1,by(repeat refine Kx.setCell ?_ (.inr (zq _)) _);exact S3.out.k,⟨⟨t2,l3⟩,rfl⟩,λx q e=>?_⟩
 obtain⟨n,q1,b,e2,e3,rfl⟩:=HE.out.2 x q e
 have hg:=HG.out _ _ e
 obtain⟨k2,f2,f3,f4⟩:=(HV2.out _ _ e2).in_ (sOne_light hg.2.1)
 obtain⟨k3,f5,f6,f7⟩:=HV3.out _ _ e3
 have hw1:=S1.out.b.lt
 have hw2:=S2.out.b.lt
 have hsz3:=HKk.out.size
 refine⟨⟨k2,k3⟩,?_,by rw[kDa,f3,f6],λw5 ha=>⟨?_,?_⟩⟩
 ·
  have f2':inA t2=inA k2:=f2
  have e9:=congrArg (λv=>match v with|.agg a=>Value.agg (a++#[l3.v])|_=>v) f2'
  have e8:Value.agg (#[.int .i64 k2.n.op,.int .i64 k2.n.a,.int .i64 k2.n.b,.int .u64 k2.n.v,.int .i64 k2.n.t,.slice k2.p.AL k2.n.L.length k2.p.cL,.slice k2.p.Ab (len k2.n.body) k2.p.cb,.slice k2.p.Ae (len k2.n.els) k2.p.ce,.bool k2.n.he]++#[l3.v])=Value.agg (#[.int .i64 k2.n.op,.int .i64 k2.n.a,.int .i64 k2.n.b,.int .u64 k2.n.v,.int .i64 k2.n.t,.slice k2.p.AL k2.n.L.length k2.p.cL,.slice k2.p.Ab (len k2.n.body) k2.p.cb,.slice k2.p.Ae (len k2.n.els) k2.p.ce,.bool k2.n.he]++#[k3.v]):=by rw[f5]
  simp only[inA]at e9
  have e7:=e9.trans e8
  simpa using e7
 ·refine FrK.moves In.ok.more _ _ _ _ _ f4 (agr_of_heap λb hb=>Kx.block (M:=λb=>b=R\/b=w.heap.size) (by(repeat refine Kx.setCell ?_ (.inl (.inr rfl)) _);exact HKk.out.mono (λb hb=>.inl hb)) b hb.2 (by have:=hb.1;omega)) (λb hb=>⟨by have:=hb.1;omega,by simp only[World.size_setCell];exact zj hb.2 hsz3⟩) (by simp only[World.size_setCell];exact hsz3) w5 ha
 ·refine FrK.moves BL.ok.more _ _ _ _ _ f7 (agr_of_heap λb hb=>Kx.block (M:=λb=>b=R\/b=w.heap.size) (by(repeat refine Kx.setCell ?_ (.inl (.inr rfl)) _);exact Kx.refl_) b hb.2 (by have:=hb.1;omega)) (λb hb=>⟨by have:=hb.1;omega,by simp only[World.size_setCell];exact hb.2⟩) (by simp only[World.size_setCell];exact zq _) w5 ha
end
end Go.Proofs.YteoijlfipmaoeaaGreatDoor
