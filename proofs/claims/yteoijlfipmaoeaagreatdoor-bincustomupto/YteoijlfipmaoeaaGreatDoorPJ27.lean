import Derived.Test.YteoijlfipmaoeaaGreatDoorPJ25
import Derived.Test.YteoijlfipmaoeaaGreatDoorPBinRkIm
set_option linter.unusedVariables false
set_option linter.unusedSimpArgs false
set_option maxRecDepth 100000
set_option maxHeartbeats 16000000
namespace Go.Proofs.YteoijlfipmaoeaaGreatDoor
open Lib (hid)
open Go.RowKit Trx
open Go.Proofs.Tryz
def FrOo{α β:Type}(e:TypeId)(k:Nat)(cells:β->List Value)(key:β->α)(Fr:(Nat->Prop)->World->β->Prop)(lo:Nat)(w:World)(v:Value):Option (List α×Nat)->Prop
 |none=>v=.slice none 0 0
 |some x=>FrLo e k cells key Fr lo w v x.1
theorem FrLo_from{α β:Type}{e:TypeId}{k:Nat}{cells:β->List Value}{key:β->α}{Fr:(Nat->Prop)->World->β->Prop}(hmv:Moves Fr){lo lo':Nat}{w:World}{v:Value}{res:Option (List α×Nat)}(hl:lo'<=lo)(h:FrOo e k cells key Fr lo w v res):FrOo e k cells key Fr lo' w v res:=by
 cases res with
 |none=>exact h
 |some x=>
  obtain⟨A1,bl,c1,e1,h1,h2,e2,h3,h4⟩:=h
  exact⟨A1,bl,c1,e1,h1,h2,e2,h3.base hl (zx _ _),λb hb=>hmv _ _ _ _ _ (h4 b hb) (λ_ _ _=>rfl) (λm hm=>⟨by have:=hm.1;omega,hm.2⟩) (zq _)⟩
theorem RdLo.o{α β:Type}{ty:TypeId}{k:Nat}{cells:β->List Value}{key:β->α}{Fr:(Nat->Prop)->World->β->Prop}{R:Nat}{w0 w:World}{A:Option Addr}{c:Nat}{bs:List UInt8}{res:Option (List α×Nat)}{e:Ending}{w':World}(h:RdLo ty k cells key Fr R w0 w A c bs res e w'):∃v p' er',e=.returned v/\Rst R w0 w' A c bs (res.map (·.2)) p' er'/\Kx (Only R) w w'/\FrOo ty k cells key Fr w.heap.size w' v res:=by
 obtain⟨v,p',er',h1,h2,h3,h4⟩:=h
 refine⟨v,p',er',h1,h2,h3,?_⟩
 cases res<;>exact h4
theorem RdLo.of{α β:Type}{ty:TypeId}{k:Nat}{cells:β->List Value}{key:β->α}{Fr:(Nat->Prop)->World->β->Prop}{R:Nat}{w0 w:World}{A:Option Addr}{c:Nat}{bs:List UInt8}{res:Option (List α×Nat)}{e:Ending}{w':World}(h:∃v p' er',e=.returned v/\Rst R w0 w' A c bs (res.map (·.2)) p' er'/\Kx (Only R) w w'/\FrOo ty k cells key Fr w.heap.size w' v res):RdLo ty k cells key Fr R w0 w A c bs res e w':=by
 obtain⟨v,p',er',h1,h2,h3,h4⟩:=h
 refine⟨v,p',er',h1,h2,h3,?_⟩
 cases res<;>exact h4
section
variable{R:Nat}{w0 w:World}{A:Option Addr}{c:Nat}{bs:List UInt8}{st:Option Nat}{p:Nat}{er:Value}
theorem rFns_any(hN:Nam w0)(h:Rst R w0 w A c bs st p er):
  Calls prog 145 #[pR R] w (RdLo 55 3 (λx:Fn=>([.int .i64 x.ty,.slice x.lo.A x.lo.zs.length x.lo.c,.slice x.bo.A (len x.bo.f) x.bo.c]:List Value)) kCo (FrK Fn.ok) R w0 w A c bs (st.bind λq=>Bin.gList 64 Bin.gFn bs q)):=by
 have hlt:=h.lt
 have e0:(w.alloc (.cells #[pR R] 88)).cell? ⟨w.heap.size,0,none⟩=some (pR R):=by rw[zv _ _ _ _ rfl];rfl
 have HK:Hid (Kx (Only R) w (w.alloc (.cells #[pR R] 88))):=hid (Kx.refl_.alloc _)
 have hne:¬w.heap.size=R:=by omega
 have HL:=hid (glist_Fn_own 215 (λ_ _=>rfl) #[.pointer (some ⟨w.heap.size,0,none⟩)] Bin.gFn kCo (FrK Fn.ok) (FrK.moves Fn.ok.more) 64 64 rfl (by omega) (h.alloc (.cells #[pR R] 88)) (λw' st' p' er' h' hk'=>c_funcs1 hN h' (hk'.cell (b:=w.heap.size) hne e0) hne))
 have hsz:(w.alloc (.cells #[pR R] 88)).heap.size=w.heap.size+1:=by simp
 clear h e0
 refine postL λP hP=>?_
 have HP:=hid hP
 clear hP
 go_enter func145,ntmps145
 go_wp2_with(first
  |(go_at_call 214;(with_reducible refine HL.out.mono ?_);intro e w1 hx;obtain⟨v1,p1,er1,rfl,h1,hk1,hv1⟩:=hx.o;have H1:=hid h1;have HK1:=hid (HK.out.trans hk1);have HV1:=hid hv1;clear hx h1 hk1 hv1))
 rw[<-HP.out]
 exact RdLo.of ⟨_,p1,er1,rfl,H1.out,HK1.out,FrLo_from (FrK.moves Fn.ok.more) (by omega) HV1.out⟩
theorem rIms_any(hU:U8T w0)(hE:Et w0)(h:Rst R w0 w A c bs st p er):
  Calls prog 136 #[pR R] w (RdL 8 (λx:Im=>([.string x.md,.string x.nm,.int .i64 x.kd,.int .i64 x.ty,.bool x.mu,.int .i64 x.lm.mn,.int .i64 x.lm.mx,.bool x.lm.hs]:List Value)) (λx=>x) (FrK λ_ _=>Im.ok) R w0 w A c bs (st.bind λq=>Bin.gList 64 Bin.gIm bs q)):=by
 have hlt:=h.lt
 have e0:(w.alloc (.cells #[pR R] 88)).cell? ⟨w.heap.size,0,none⟩=some (pR R):=by rw[zv _ _ _ _ rfl];rfl
 have HK:Hid (Kx (Only R) w (w.alloc (.cells #[pR R] 88))):=hid (Kx.refl_.alloc _)
 have hne:¬w.heap.size=R:=by omega
 have HL:=hid (glist_any .Im 201 (λ_ _=>rfl) #[.pointer (some ⟨w.heap.size,0,none⟩)] Bin.gIm (λx=>x) (FrK λ_ _=>Im.ok) (FrK.moves λ_ _ _ _ h _=>h) 64 64 rfl (by omega) (h.alloc (.cells #[pR R] 88)) (λw' st' p' er' h' hk'=>c_imports1 hU hE h' (hk'.cell (b:=w.heap.size) hne e0) hne))
 have hsz:(w.alloc (.cells #[pR R] 88)).heap.size=w.heap.size+1:=by simp
 clear h e0
 refine postL λP hP=>?_
 have HP:=hid hP
 clear hP
 go_enter func136,ntmps136
 go_wp2_with(first
  |(go_at_call 200;(with_reducible refine HL.out.mono ?_);intro e w1 hx;obtain⟨v1,p1,er1,rfl,h1,hk1,hv1⟩:=hx.o;have H1:=hid h1;have HK1:=hid (HK.out.trans hk1);have HV1:=hid hv1;clear hx h1 hk1 hv1))
 rw[<-HP.out]
 exact RdL.of ⟨_,p1,er1,rfl,H1.out,HK1.out,FrL_from (FrK.moves λ_ _ _ _ h _=>h) (by omega) HV1.out⟩
end
section
variable{R:Nat}{w0 w:World}{A:Option Addr}{c:Nat}{bs:List UInt8}{st:Option Nat}{p:Nat}{er:Value}
theorem c_exports1{X:Nat}(hU:U8T w0)(hE:Et w0)(h:Rst R w0 w A c bs st p er)(hX:w.cell? ⟨X,0,none⟩=some (pR R))(hXR:X≠R):
  Calls prog 209 #[.pointer (some ⟨X,0,none⟩)] w (RdE (λx:Ex=>(.agg #[.string x.nm,.int .i64 x.kd,.int .i64 x.ix]:Value)) (λx=>x) (FrK λ_ _=>Ex.ok) R w0 w A c bs (st.bind λq=>Bin.gEx bs q)):=by
 have HT:=hid (Bk.new h.lt #[.string ⟨#[]⟩,.int .i64 0,.int .i64 0] 79 _ rfl rfl)
 have HK:Hid (Kx (Only R) w (w.alloc (.cells #[.string ⟨#[]⟩,.int .i64 0,.int .i64 0] 79))):=hid (Kx.refl_.alloc _)
 have HA:=hid (h.alloc (.cells #[.string ⟨#[]⟩,.int .i64 0,.int .i64 0] 79))
 have HXA:=hid (((Kx.refl_ (M:=λ_=>False)).alloc (.cells #[.string ⟨#[]⟩,.int .i64 0,.int .i64 0] 79)).cell (by simp) hX)
 have hge:=h.bel.size
 have hRl:=h.lt
 have HXn:=hid (show X≠w.heap.size from jb (zn _ _ hX))
 obtain⟨r1,hr1⟩:∃r,(st.bind λq=>Bin.gName bs q)=r:=⟨_,rfl⟩
 obtain⟨r2,hr2⟩:∃r,((r1.map (·.2)).bind λq=>Bin.gKind bs q)=r:=⟨_,rfl⟩
 obtain⟨r3,hr3⟩:∃r,((r2.map (·.2)).bind λq=>Bin.gNum bs q)=r:=⟨_,rfl⟩
 have HE:=hid (seq3_eq (λ(a:ByteArray) (k n:Int)=>(⟨a,k,n⟩:Ex)) hr1 hr2 hr3)
 have HG:=hid (λx q (e:(st.bind λq=>Bin.gEx bs q)=some (x,q))=>h.got Bin.ex_got e)
 have HR1:=hid hr1
 have HR2:=hid hr2
 have HR3:=hid hr3
 have HU:=hid hU
 have HEt:=hid hE
 refine postL λP hP=>?_
 have HP:=hid hP
 clear h hP hr1 hr2 hr3 hU hE
 go_enter func209,ntmps209
 go_wp2_with fail
 obtain⟨W1,hW1⟩:∃W1:World,W1=(w.alloc (.cells #[.string ⟨#[]⟩,.int .i64 0,.int .i64 0] 79)).drew:=⟨_,rfl⟩
 have HD1:Hid (Rst R w0 W1 A c bs st p er):=hid (by rw[hW1];exact HA.out.drewN 1)
 have HKD:Hid (Kx (Only R) w W1):=hid (by rw[hW1];exact HK.out.drewN 1)
 have HTD:Hid (Bk R W1 w.heap.size [.string ⟨#[]⟩,.int .i64 0,.int .i64 0]):=hid (by rw[hW1];exact HT.out.kx (Kx.refl_.drewN 1))
 have HXD:Hid (W1.cell? ⟨X,0,none⟩=some (pR R)):=hid (by rw[hW1];exact HXA.out)
 refine wp_region_held_drew (S:=λw'=>w'.cell? ⟨X,0,none⟩=some (pR R)) (by kernel_rfl) (by rw[<-hW1];exact HXD.out) (λhHeld=>?_)
 rw[<-hW1]at hHeld⊢
 clear hW1 HA HK HT HXA
 refine rtk 0 2 ?_
 refine rtk 2 4 ?_
 refine rtk 4 6 ?_
 refine rcl 1 λK hK=>?_
 go_simp
 refine(rname_any HU.out HEt.out HD1.out).mono ?_
 unfold RdS8 RdQ
 rintro e w2 ⟨v2,p2,er2,rfl,h2,hk2,⟨t2,rfl⟩,hv2⟩
 rw[HR1.out]at h2 hv2
 have H2:=hid h2
 have HK2:=hid (HKD.out.trans hk2)
 have HT2:=hid (HTD.out.kx hk2)
 have HX2:=hid (hk2.cell (show¬X=R from hXR) HXD.out)
 have HV2:=hid hv2
 clear h2 hk2 hv2
 go_wp2_with fail
 refine rbk hK HX2.out λhHeld=>?_;clear hK K
 refine rcl 3 λK hK=>?_
 go_simp
 refine(rkind_any H2.out).mono ?_
 unfold RdQ
 rintro e w3 ⟨v3,p3,er3,rfl,h3,hk3,⟨t3,rfl,-,-⟩,hv3⟩
 rw[HR2.out]at h3 hv3
 have H3:=hid h3
 have HK3:=hid (HK2.out.trans hk3)
 have HT3:=hid (HT2.out.kx hk3)
 have HX3:=hid (hk3.cell (show¬X=R from hXR) HX2.out)
 have HV3:=hid hv3
 clear h3 hk3 hv3
 go_wp2_with fail
 refine rbk hK HX3.out λhHeld=>?_;clear hK K
 refine rcl 5 λK hK=>?_
 go_simp
 refine(rnumber_any H3.out).mono ?_
 unfold RdQ
 rintro e w4 ⟨v4,p4,er4,rfl,h4,hk4,⟨t4,rfl,-,-⟩,hv4⟩
 rw[HR3.out]at h4 hv4
 have H4:=hid h4
 have HK4:=hid (HK3.out.trans hk4)
 have HKk:=hid hk4
 have HT4:=hid (HT3.out.kx hk4)
 have HX4:=hid (hk4.cell (show¬X=R from hXR) HX3.out)
 have HV4:=hid hv4
 clear h4 hk4 hv4
 go_wp2_with fail
 refine rbk hK HX4.out λhHeld=>?_;clear hK K
 refine rtk 6 8 ?_
 have y0:=HT4.out.cell 0 _ rfl
 have y1:=HT4.out.cell 1 _ rfl
 have y2:=HT4.out.cell 2 _ rfl
 have g0:=HT4.out.fr 0
 have g1:=HT4.out.fr 1
 have g2:=HT4.out.fr 2
 have hXl:X≠w.heap.size:=HXn.out
 refine rcl 7 λK hK=>?_
 go_simp
 refine rbk hK (by simp[zk,hXl,Ne.symm hXl,HX4.out]) λhHeld=>?_;clear hK K
 refine wpAnyH_done (by kernel_rfl) ?_ _
 clear hHeld
 go_wp2_with fail
 refine bodyPost_ret (v:=.agg #[.string t2,.int .i64 t3,.int .i64 t4]) (by simp[results,results209,go_sem,y0,y1,y2]) rfl ?_
 rw[<-HP.out]
 have hnw:w.heap.size≠R:=HT4.out.ne
 refine⟨_,p4,er4,rfl,(((H4.out.setOther hge hnw 0 _).setOther hge hnw 1 _).setOther hge hnw 2 _).eq HE.out.1,(((HK4.out.setCell (p:=⟨w.heap.size,0,none⟩) (.inr (zq _)) _).setCell (p:=⟨w.heap.size,1,none⟩) (.inr (zq _)) _).setCell (p:=⟨w.heap.size,2,none⟩) (.inr (zq _)) _),⟨⟨t2,t3,t4⟩,rfl⟩,λx q e=>?_⟩
 obtain⟨a,q1,b,q2,n,e2,e3,e4,rfl⟩:=HE.out.2 x q e
 have hg:=HG.out _ _ e
 have f2:t2=a:=by have:=HV2.out _ _ e2;injection this
 have f3:=i64_inj (HV3.out _ _ e3)
 have f4:=i64_inj (HV4.out _ _ e4)
 subst f2 f3 f4
 obtain⟨h9,h8⟩:=hg
 simp only[Bin.pEx,Bin.cat,Bin.pKind,Bin.pNum,Bin.pName,zp]at h9
 simp only[Bin.sEx,Bin.sName]at h8
 have h7:t2.size<=64:=by have:=size_list t2;omega
 refine⟨⟨t2,t3,t4⟩,rfl,rfl,λ_ _=>⟨⟨by show t2.size<=maxLen;unfold maxLen;omega,by show t2.size<=RB;unfold RB;omega⟩,?_,?_⟩⟩
 ·
  show inI t3
  simp only[decide_eq_true_eq]at h9
  unfold inI
  omega
 ·
  show inI t4
  have h6:num32 t4=true:=h9.2.2
  have:=(num32_iff t4).1 h6
  unfold inI
  omega
end
section
variable{R:Nat}{w0 w:World}{A:Option Addr}{c:Nat}{bs:List UInt8}{st:Option Nat}{p:Nat}{er:Value}
theorem rExs_any(hU:U8T w0)(hE:Et w0)(h:Rst R w0 w A c bs st p er):
  Calls prog 143 #[pR R] w (RdL 3 (λx:Ex=>([.string x.nm,.int .i64 x.kd,.int .i64 x.ix]:List Value)) (λx=>x) (FrK λ_ _=>Ex.ok) R w0 w A c bs (st.bind λq=>Bin.gList 64 Bin.gEx bs q)):=by
 have hlt:=h.lt
 have e0:(w.alloc (.cells #[pR R] 88)).cell? ⟨w.heap.size,0,none⟩=some (pR R):=by rw[zv _ _ _ _ rfl];rfl
 have HK:Hid (Kx (Only R) w (w.alloc (.cells #[pR R] 88))):=hid (Kx.refl_.alloc _)
 have hne:¬w.heap.size=R:=by omega
 have HL:=hid (glist_any .Ex 209 (λ_ _=>rfl) #[.pointer (some ⟨w.heap.size,0,none⟩)] Bin.gEx (λx=>x) (FrK λ_ _=>Ex.ok) (FrK.moves λ_ _ _ _ h _=>h) 64 64 rfl (by omega) (h.alloc (.cells #[pR R] 88)) (λw' st' p' er' h' hk'=>c_exports1 hU hE h' (hk'.cell (b:=w.heap.size) hne e0) hne))
 have hsz:(w.alloc (.cells #[pR R] 88)).heap.size=w.heap.size+1:=by simp
 clear h e0
 refine postL λP hP=>?_
 have HP:=hid hP
 clear hP
 go_enter func143,ntmps143
 go_wp2_with(first
  |(go_at_call 208;(with_reducible refine HL.out.mono ?_);intro e w1 hx;obtain⟨v1,p1,er1,rfl,h1,hk1,hv1⟩:=hx.o;have H1:=hid h1;have HK1:=hid (HK.out.trans hk1);have HV1:=hid hv1;clear hx h1 hk1 hv1))
 rw[<-HP.out]
 exact RdL.of ⟨_,p1,er1,rfl,H1.out,HK1.out,FrL_from (FrK.moves λ_ _ _ _ h _=>h) (by omega) HV1.out⟩
end
def RdSL{α β:Type}(key:β->α)(ok:World->Nat->SL β->Prop)(R:Nat)(w0 w:World)(A:Option Addr)(c:Nat)(bs:List UInt8)(res:Option (List α×Nat)):Ending->World->Prop:=λe w'=>∃(s:SL β) (p':Nat) (er':Value),e=.returned (.slice s.A s.l.length s.c)/\Rst R w0 w' A c bs (res.map (·.2)) p' er'/\Kx (Only R) w w'/\∀x q,res=some (x,q)->s.l.map key=x/\FrK ok (Win w.heap.size w') w' s
theorem RdL.sl{α β:Type}{k by_:Nat}{cells cells':β->List Value}{key:β->α}{ok:World->Nat->β->Prop}{R:Nat}{w0 w:World}{A:Option Addr}{c:Nat}{bs:List UInt8}{res:Option (List α×Nat)}{e:Ending}{w':World}(h:RdL k cells key (FrK ok) R w0 w A c bs res e w')(hc:cells=cells')(hby:by_<=1000)(hl:∀x q,res=some (x,q)->x.length<=64):RdSL key (λw B s=>SL.ok cells' ok k by_ w B s) R w0 w A c bs res e w':=by
 subst hc
 obtain⟨v,p',er',h1,h2,h3,h4⟩:=h
 cases res with
 |none=>
  dsimp only at h4
  subst h4
  exact⟨⟨[],none,0⟩,p',er',h1,h2,h3,λ_ _ e=>by cases e⟩
 |some y=>
  obtain⟨y,q⟩:=y
  obtain⟨A1,bl,c1,rfl,g1,g2,g3,g4,g5⟩:=h4
  refine⟨⟨bl,A1,c1⟩,p',er',h1,h2,h3,λx q' e=>?_⟩
  have hy:=hl _ _ rfl
  injection e with e
  injection e with e1 e2
  subst e1
  refine⟨g3,λw2 ha=>⟨g1,g2,?_,g4 w2 ha,λb hb=>g5 b hb w2 ha⟩⟩
  have e3:bl.length=y.length:=by have:=congrArg List.length g3;simpa using this
  show bl.length * by_<=RB
  have:bl.length * by_<=64 * 1000:=Nat.mul_le_mul (by omega) hby
  unfold RB
  omega
theorem RdL.slT{β:Type}{k by_:Nat}{cells cells':β->List Value}{okE:β->Prop}{R:Nat}{w0 w:World}{A:Option Addr}{c:Nat}{bs:List UInt8}{res:Option (List β×Nat)}{e:Ending}{w':World}(h:RdL k cells (λx=>x) FrT R w0 w A c bs res e w')(hc:cells=cells')(hby:by_<=1000)(hl:∀x q,res=some (x,q)->x.length<=64/\∀z∈x,okE z):RdSL (λx=>x) (λw B s=>SL.ok cells' (λ_ _=>okE) k by_ w B s) R w0 w A c bs res e w':=by
 refine RdL.sl (ok:=λ_ _=>okE) ?_ hc hby (λx q e=>(hl x q e).1)
 obtain⟨v,p',er',h1,h2,h3,h4⟩:=h
 refine⟨v,p',er',h1,h2,h3,?_⟩
 cases res with
 |none=>exact h4
 |some y=>
  obtain⟨A1,bl,c1,rfl,g1,g2,g3,g4,g5⟩:=h4
  refine⟨A1,bl,c1,rfl,g1,g2,g3,g4,λb hb w2 _=>(hl _ _ rfl).2 b ?_⟩
  rw[<-g3,List.map_id']
  exact hb
def Sp(lo:Nat)(w:World)(c f:Value):Nat->Prop:=λb=>lo<=b/\b<w.heap.size/\c.ownBlock≠some b/\f.ownBlock≠some b
theorem FrK.sp{β:Type}{ok:World->Nat->β->Prop}(hm:∀(w:World) (B B':Nat) (b:β),ok w B b->B<=B'->ok w B' b){lo:Nat}{w w':World}{c f c' f':Value}{x:β}{M:Nat->Prop}(h:FrK ok (Sp lo w c f) w x)(hk:Kx M w w')(hM:∀b,M b->b<lo\/c.ownBlock=some b\/f.ownBlock=some b)
  (hc:∀b,b<w.heap.size->c'.ownBlock=some b->c.ownBlock=some b) (hf:∀b,b<w.heap.size->f'.ownBlock=some b->f.ownBlock=some b):FrK ok (Sp lo w' c' f') w' x:=
 h.kxm hm hk (λb hb=>⟨hb.2.1,λhm=>by rcases hM b hm with e|e|e;have:=hb.1;omega;exact hb.2.2.1 e;exact hb.2.2.2 e⟩) (λb hb=>⟨hb.1,zj hb.2.1 hk.size,λe=>hb.2.2.1 (hc b hb.2.1 e),λe=>hb.2.2.2 (hf b hb.2.1 e)⟩)
theorem SL.ok.more{α:Type}{cells:α->List Value}{ok:World->Nat->α->Prop}{k y:Nat}(ho:∀(w:World) (B B':Nat) (a:α),ok w B a->B<=B'->ok w B' a)(w:World)(B B':Nat)(s:SL α)(h:s.ok cells ok k y w B)(hB:B<=B'):s.ok cells ok k y w B':=
 h.keep hB (λ_ _ _=>rfl) λa ha=>ho w B B' a ha hB
theorem Cu.ok.more(w:World)(B B':Nat)(l:Cu)(h:l.ok w B)(hB:B<=B'):l.ok w B':=h.keep hB (λ_ _ _=>rfl)
structure DmO(S:Nat->Prop)(w:World)(m:Mo)(tl:IL):Prop where
 ty:FrK (λw B s=>SL.ok Ty.cells Ty.ok 2 48 w B s) S w m.ty
 im:FrK (λw B s=>SL.ok Im.cells (λ_ _=>Im.ok) 8 80 w B s) S w m.im
 ta:FrK (λw B s=>SL.ok Lm.cells (λ_ _=>Lm.ok) 3 24 w B s) S w m.ta
 me:FrK (λw B s=>SL.ok Lm.cells (λ_ _=>Lm.ok) 3 24 w B s) S w m.me
 gl:FrK (λw B s=>SL.ok Gl.cells Gl.ok 11 136 w B s) S w m.gl
 ex:FrK (λw B s=>SL.ok Ex.cells (λ_ _=>Ex.ok) 3 32 w B s) S w m.ex
 st:inI m.st
 el:FrK (λw B s=>SL.ok El.cells El.ok 10 144 w B s) S w m.el
 da:FrK (λw B s=>SL.ok Da.cells Da.ok 10 144 w B s) S w m.da
 cu:∀x∈m.cu.l,FrK Cu.ok S w x
 fn:∀x∈m.fn.l,FrK Fn.ok S w x
 tl:FrK IL.ok S w tl
theorem DmO.mv{S S':Nat->Prop}{w w':World}{m:Mo}{tl:IL}(h:DmO S w m tl)(hv:∀{β:Type} {ok:World->Nat->β->Prop} {x:β},(∀(w:World) (B B':Nat) (b:β),ok w B b->B<=B'->ok w B' b)->FrK ok S w x->FrK ok S' w' x):DmO S' w' m tl:=
 ⟨hv (SL.ok.more Ty.ok.more) h.ty,hv (SL.ok.more λ_ _ _ _ h _=>h) h.im,hv (SL.ok.more λ_ _ _ _ h _=>h) h.ta,hv (SL.ok.more λ_ _ _ _ h _=>h) h.me,hv (SL.ok.more Gl.ok.more) h.gl,hv (SL.ok.more λ_ _ _ _ h _=>h) h.ex,h.st,
  hv (SL.ok.more El.ok.more) h.el,hv (SL.ok.more Da.ok.more) h.da,λx hx=>hv Cu.ok.more (h.cu x hx),λx hx=>hv Fn.ok.more (h.fn x hx),hv IL.ok.more h.tl⟩
def kD(m:Mo)(tl:IL):Bin.Dm:=⟨m.ty.l.map kTy,m.im.l,tl.zs,m.ta.l,m.me.l,m.gl.l.map kGl,m.ex.l,m.st,m.el.l.map kEl,m.fn.l.map kCo,m.da.l.map kDa,m.cu.l.map kCu⟩
structure DmP(lo:Nat)(w:World)(d:Bin.Dm)(m:Mo)(tl:IL):Prop where
 o:DmO (Sp lo w m.cu.v m.fn.v) w m tl
 cu:OwnK lo w w 48 2 m.cu.v (m.cu.l.map Cu.cells)
 fn:OwnK lo w w 55 3 m.fn.v (m.fn.l.map Fn.cells)
 dj:∀g,m.cu.v.ownBlock=some g->m.fn.v.ownBlock≠some g
 cl:m.cu.l.length<=64
 fl:m.fn.l.length<=64
 key:kD m tl=d
section
variable{lo R:Nat}{w w':World}{d:Bin.Dm}{m:Mo}{tl:IL}
theorem DmP.lo_le(h:DmP lo w d m tl):lo<=w.heap.size:=h.cu.le
theorem DmP.kx{M:Nat->Prop}(h:DmP lo w d m tl)(hk:Kx M w w')(hM:∀b,M b->b<lo):DmP lo w' d m tl:=
 ⟨h.o.mv λhm hx=>hx.sp hm hk (λb hb=>.inl (hM b hb)) (λ_ _ e=>e) (λ_ _ e=>e),h.cu.kxm hk hM,h.fn.kxm hk hM,h.dj,h.cl,h.fl,h.key⟩
theorem DmP.win{β:Type}{ok:World->Nat->β->Prop}(hm:∀(w:World) (B B':Nat) (b:β),ok w B b->B<=B'->ok w B' b)(h:DmP lo w d m tl){x:β}(hx:FrK ok (Win w.heap.size w') w' x):FrK ok (Sp lo w' m.cu.v m.fn.v) w' x:=
 FrK.moves hm _ _ _ _ _ hx (λ_ _ _=>rfl) (λb hb=>⟨by have:=h.lo_le;have:=hb.1;omega,hb.2,λe=>by have:=(h.cu.own_lt e).2;have:=hb.1;omega,λe=>by have:=(h.fn.own_lt e).2;have:=hb.1;omega⟩) (zq _)
theorem DmP.putTy(h:DmP lo w d m tl)(hk:Kx (Only R) w w')(hR:R<lo){s:SL Ty}{x:List (List Int×List Int)}(hx:s.l.map kTy=x)(hs:FrK (λw B s=>SL.ok Ty.cells Ty.ok 2 48 w B s) (Win w.heap.size w') w' s):DmP lo w' {d with ty:=x} {m with ty:=s} tl:=by
 have h':=h.kx hk (by rintro b rfl;exact hR)
 exact⟨{h'.o with ty:=h.win (SL.ok.more Ty.ok.more) hs},h'.cu,h'.fn,h'.dj,h'.cl,h'.fl,by rw[<-h.key,<-hx];rfl⟩
theorem DmP.putIm(h:DmP lo w d m tl)(hk:Kx (Only R) w w')(hR:R<lo){s:SL Im}{x:List Im}(hx:s.l.map (λx=>x)=x)(hs:FrK (λw B s=>SL.ok Im.cells (λ_ _=>Im.ok) 8 80 w B s) (Win w.heap.size w') w' s):DmP lo w' {d with im:=x} {m with im:=s} tl:=by
 have h':=h.kx hk (by rintro b rfl;exact hR)
 exact⟨{h'.o with im:=h.win (SL.ok.more λ_ _ _ _ h _=>h) hs},h'.cu,h'.fn,h'.dj,h'.cl,h'.fl,by rw[<-h.key,<-hx,List.map_id'];rfl⟩
theorem DmP.putTa(h:DmP lo w d m tl)(hk:Kx (Only R) w w')(hR:R<lo){s:SL Lm}{x:List Lm}(hx:s.l.map (λx=>x)=x)(hs:FrK (λw B s=>SL.ok Lm.cells (λ_ _=>Lm.ok) 3 24 w B s) (Win w.heap.size w') w' s):DmP lo w' {d with ta:=x} {m with ta:=s} tl:=by
 have h':=h.kx hk (by rintro b rfl;exact hR)
 exact⟨{h'.o with ta:=h.win (SL.ok.more λ_ _ _ _ h _=>h) hs},h'.cu,h'.fn,h'.dj,h'.cl,h'.fl,by rw[<-h.key,<-hx,List.map_id'];rfl⟩
theorem DmP.putMe(h:DmP lo w d m tl)(hk:Kx (Only R) w w')(hR:R<lo){s:SL Lm}{x:List Lm}(hx:s.l.map (λx=>x)=x)(hs:FrK (λw B s=>SL.ok Lm.cells (λ_ _=>Lm.ok) 3 24 w B s) (Win w.heap.size w') w' s):DmP lo w' {d with me:=x} {m with me:=s} tl:=by
 have h':=h.kx hk (by rintro b rfl;exact hR)
 exact⟨{h'.o with me:=h.win (SL.ok.more λ_ _ _ _ h _=>h) hs},h'.cu,h'.fn,h'.dj,h'.cl,h'.fl,by rw[<-h.key,<-hx,List.map_id'];rfl⟩
theorem DmP.putGl(h:DmP lo w d m tl)(hk:Kx (Only R) w w')(hR:R<lo){s:SL Gl}{x:List (Int×Bool×Nd)}(hx:s.l.map kGl=x)(hs:FrK (λw B s=>SL.ok Gl.cells Gl.ok 11 136 w B s) (Win w.heap.size w') w' s):DmP lo w' {d with gl:=x} {m with gl:=s} tl:=by
 have h':=h.kx hk (by rintro b rfl;exact hR)
 exact⟨{h'.o with gl:=h.win (SL.ok.more Gl.ok.more) hs},h'.cu,h'.fn,h'.dj,h'.cl,h'.fl,by rw[<-h.key,<-hx];rfl⟩
theorem DmP.putEx(h:DmP lo w d m tl)(hk:Kx (Only R) w w')(hR:R<lo){s:SL Ex}{x:List Ex}(hx:s.l.map (λx=>x)=x)(hs:FrK (λw B s=>SL.ok Ex.cells (λ_ _=>Ex.ok) 3 32 w B s) (Win w.heap.size w') w' s):DmP lo w' {d with ex:=x} {m with ex:=s} tl:=by
 have h':=h.kx hk (by rintro b rfl;exact hR)
 exact⟨{h'.o with ex:=h.win (SL.ok.more λ_ _ _ _ h _=>h) hs},h'.cu,h'.fn,h'.dj,h'.cl,h'.fl,by rw[<-h.key,<-hx,List.map_id'];rfl⟩
theorem DmP.putSt(h:DmP lo w d m tl)(hk:Kx (Only R) w w')(hR:R<lo){x:Int}(hx:inI x):DmP lo w' {d with st:=x} {m with st:=x} tl:=by
 have h':=h.kx hk (by rintro b rfl;exact hR)
 exact⟨{h'.o with st:=hx},h'.cu,h'.fn,h'.dj,h'.cl,h'.fl,by rw[<-h.key];rfl⟩
theorem DmP.putEl(h:DmP lo w d m tl)(hk:Kx (Only R) w w')(hR:R<lo){s:SL El}{x:List (Nd×List Int)}(hx:s.l.map kEl=x)(hs:FrK (λw B s=>SL.ok El.cells El.ok 10 144 w B s) (Win w.heap.size w') w' s):DmP lo w' {d with el:=x} {m with el:=s} tl:=by
 have h':=h.kx hk (by rintro b rfl;exact hR)
 exact⟨{h'.o with el:=h.win (SL.ok.more El.ok.more) hs},h'.cu,h'.fn,h'.dj,h'.cl,h'.fl,by rw[<-h.key,<-hx];rfl⟩
theorem DmP.putDa(h:DmP lo w d m tl)(hk:Kx (Only R) w w')(hR:R<lo){s:SL Da}{x:List (Nd×List UInt8)}(hx:s.l.map kDa=x)(hs:FrK (λw B s=>SL.ok Da.cells Da.ok 10 144 w B s) (Win w.heap.size w') w' s):DmP lo w' {d with da:=x} {m with da:=s} tl:=by
 have h':=h.kx hk (by rintro b rfl;exact hR)
 exact⟨{h'.o with da:=h.win (SL.ok.more Da.ok.more) hs},h'.cu,h'.fn,h'.dj,h'.cl,h'.fl,by rw[<-h.key,<-hx];rfl⟩
theorem DmP.putFt(h:DmP lo w d m tl)(hk:Kx (Only R) w w')(hR:R<lo){s:IL}{x:List Int}(hx:s.zs=x)(hs:FrK IL.ok (Win w.heap.size w') w' s):DmP lo w' {d with ft:=x} m s:=by
 have h':=h.kx hk (by rintro b rfl;exact hR)
 exact⟨{h'.o with tl:=h.win IL.ok.more hs},h'.cu,h'.fn,h'.dj,h'.cl,h'.fl,by rw[<-h.key,<-hx];rfl⟩
theorem DmP.putFn(h:DmP lo w d m tl)(hk:Kx (Only R) w w')(hR:R<lo){s:SL Fn}{x:List (List Int×Fo)}(hx:s.l.map kCo=x)(hx64:x.length<=64)(ho:OwnK w.heap.size w' w' 55 3 s.v (s.l.map Fn.cells))(hs:∀b∈s.l,FrK Fn.ok (CpV w.heap.size w' s.v) w' b):DmP lo w' {d with fn:=x} {m with fn:=s} tl:=by
 have h':=h.kx hk (by rintro b rfl;exact hR)
 have hlo:=h.lo_le
 have hfo:∀b,b<w.heap.size->s.v.ownBlock=some b->m.fn.v.ownBlock=some b:=λb hb e=>by have:=(ho.own_lt e).1;omega
 have hO:DmO (Sp lo w' m.cu.v s.v) w' m tl:=h.o.mv λhm hx=>hx.sp hm hk (λb hb=>.inl (by rw[show b=R from hb];exact hR)) (λ_ _ e=>e) hfo
 refine⟨⟨hO.ty,hO.im,hO.ta,hO.me,hO.gl,hO.ex,hO.st,hO.el,hO.da,hO.cu,λb hb=>?_,hO.tl⟩,h'.cu,ho.base hlo (zx _ _),λg hg e=>?_,h'.cl,?_,by rw[<-h.key,<-hx];rfl⟩
 ·exact FrK.moves Fn.ok.more _ _ _ _ _ (hs b hb) (λ_ _ _=>rfl) (λb hb=>⟨by have:=hb.1;omega,hb.2.1,λe=>by have:=(h.cu.own_lt e).2;have:=hb.1;omega,hb.2.2⟩) (zq _)
 ·
  have h1:=(h.cu.own_lt hg).2
  have h2:=(ho.own_lt e).1
  omega
 ·
  show s.l.length<=64
  rw[<-hx,zd]at hx64
  exact hx64
end
end Go.Proofs.YteoijlfipmaoeaaGreatDoor
