import Derived.Test.YteoijlfipmaoeaaGreatDoorPJ24
set_option linter.unusedVariables false
set_option linter.unusedSimpArgs false
set_option maxRecDepth 100000
set_option maxHeartbeats 16000000
namespace Go.Proofs.YteoijlfipmaoeaaGreatDoor
open Lib (hid)
open Go.RowKit Trx
open Go.Proofs.Tryz
section
variable{R:Nat}{w0 w:World}{A:Option Addr}{c:Nat}{bs:List UInt8}{st:Option Nat}{p:Nat}{er:Value}
theorem rnums_il{X:Nat}(h:Rst R w0 w A c bs st p er)(hX:w.cell? ⟨X,0,none⟩=some (pR R))(hXR:X≠R):Calls prog 31 #[pR R,.int .i64 64,.func (.func 213) #[] #[.pointer (some ⟨X,0,none⟩)]] w (RdI R w0 w A c bs (st.bind λq=>Bin.gList 64 Bin.gNum bs q)):=
 (glist_any .int 213 (λ_ _=>rfl) #[.pointer (some ⟨X,0,none⟩)] Bin.gNum (λx=>x) FrT FrT.moves 64 64 rfl (by omega) h (λ_ _ _ _ h' hk'=>c_elems11 h' (hk'.cell (show¬X=R from hXR) hX))).mono λ_ _ hx=>hx.il λ_ _ hr=>by
  obtain⟨h1,h2⟩:=h.got (Bin.list_got Bin.num_got 64) hr
  refine⟨zy h2.1 (by decide),λz hz=>?_⟩
  have h3:num32 z=true:=pAll_all h1 z hz
  obtain⟨h4,h5⟩:=(num32_iff z).1 h3
  unfold inI
  omega
theorem c_El1{X:Nat}(hN:Nam w0)(h:Rst R w0 w A c bs st p er)(hX:w.cell? ⟨X,0,none⟩=some (pR R))(hXR:X≠R):
  Calls prog 211 #[.pointer (some ⟨X,0,none⟩)] w (RdE (λx:El=>(.agg #[.int .i64 x.i.n.op,.int .i64 x.i.n.a,.int .i64 x.i.n.b,.int .u64 x.i.n.v,.int .i64 x.i.n.t,.slice x.i.p.AL x.i.n.L.length x.i.p.cL,.slice x.i.p.Ab (len x.i.n.body) x.i.p.cb,.slice x.i.p.Ae (len x.i.n.els) x.i.p.ce,.bool x.i.n.he,.slice x.fs.A x.fs.zs.length x.fs.c]:Value)) kEl (FrK El.ok) R w0 w A c bs (st.bind λq=>Bin.gEl bs q)):=by
 have hn:=Rz.new h hX [.int .i64 0,.int .i64 0,.int .i64 0,.int .u64 0,.int .i64 0,.slice none 0 0,.slice none 0 0,.slice none 0 0,.bool false,.slice none 0 0] 63
 have HB:=hid (rplace_any hn.r)
 have hXa:=hn.x
 have HN:=hid hn
 have hge:=h.bel.size
 have hRl:=h.lt
 have HXn:=hid (show X≠w.heap.size from jb (zn _ _ hX))
 obtain⟨s1,hs1⟩:∃s,(st.bind λq=>Bin.gZero bs q).map (·.2)=s:=⟨_,rfl⟩
 rw[hs1]at HB
 obtain⟨r2,hr2⟩:∃r,(s1.bind λq=>Bin.gOne bs q)=r:=⟨_,rfl⟩
 obtain⟨r3,hr3⟩:∃r,((r2.map (·.2)).bind λq=>Bin.gList 64 Bin.gNum bs q)=r:=⟨_,rfl⟩
 have he:(st.bind λq=>Bin.gEl bs q)=s1.bind λq=>(Bin.bnd Bin.gOne λn=>Bin.bnd (Bin.gList 64 Bin.gNum) λl=>Bin.ret (n,l)) bs q:=by
  rw[<-hs1];exact seq_eq rfl
 have HE:=hid (seq2_eq (λn l=>(n,l)) hr2 hr3)
 rw[<-he]at HE
 have HG:=hid (λx q (e:(st.bind λq=>Bin.gEl bs q)=some (x,q))=>h.got Bin.el_got e)
 have HR2:=hid hr2
 have HR3:=hid hr3
 have HNm:=hid hN
 refine postL λP hP=>?_
 have HP:=hid hP
 clear h hP hs1 hr2 hr3 hN he hn
 unfold RdU at HB
 go_enter func211,ntmps211
 go_wp2_with(first
  |(go_at_call 212;(with_reducible refine HB.out.mono ?_);rintro e w1 ⟨rfl,p1,er1,h1,hk1⟩;have S1:=hid (HN.out.step hXR h1 hk1).drew;clear h1 hk1))
 obtain⟨W1,hW1⟩:∃W1:World,W1=w1.drew:=⟨_,rfl⟩
 rw[<-hW1]at S1
 refine wp_region_held_drew (S:=λw'=>w'.cell? ⟨X,0,none⟩=some (pR R)) (by kernel_rfl) (by rw[<-hW1];exact S1.out.x) (λhHeld=>?_)
 rw[<-hW1]at hHeld⊢
 clear hW1 HN
 refine rtk 0 4 ?_
 refine rtk 2 6 ?_
 refine rtk 3 7 ?_
 refine rcl 1 λK hK=>?_
 go_simp
 refine(rone_any HNm.out S1.out.r).mono ?_
 unfold RdQ
 rintro e w2 ⟨v2,p2,er2,rfl,h2,hk2,⟨t2,rfl⟩,hv2⟩
 rw[HR2.out]at h2 hv2
 have S2:=hid (S1.out.step hXR h2 hk2)
 have HV2:=hid hv2
 clear h2 hk2 hv2
 unfold inA
 go_wp2_with fail
 refine rbk hK S2.out.x λhHeld=>?_;clear hK K
 refine rcl 4 λK hK=>?_
 go_simp
 refine(rnums_il S2.out.r S2.out.x hXR).mono ?_
 unfold RdI RdQ
 rintro e w3 ⟨v3,p3,er3,rfl,h3,hk3,⟨l3,rfl⟩,hv3⟩
 rw[HR3.out]at h3 hv3
 have S3:=hid (S2.out.step hXR h3 hk3)
 have HKk:=hid hk3
 have HV3:=hid hv3
 clear h3 hk3 hv3
 go_wp2_with fail
 refine rbk hK S3.out.x λhHeld=>?_;clear hK K
 refine rtk 5 9 ?_
 have Y:=S3.out.b.all
 simp only[Bk.A,Nat.reduceAdd,and_true]at Y
 obtain⟨y0,g0,y1,g1,y2,g2,y3,g3,y4,g4,y5,g5,y6,g6,y7,g7,y8,g8,y9,g9⟩:=Y
 have hXl:X≠w.heap.size:=HXn.out
 refine rcl 6 λK hK=>?_
 go_simp
 refine rbk hK (by simp[zk,hXl,Ne.symm hXl,S3.out.x]) λhHeld=>?_;clear hK K
 refine wpAnyH_done (by kernel_rfl) ?_ _
 clear hHeld
 go_wp2_with fail
 refine bodyPost_ret (v:=.agg #[.int .i64 t2.n.op,.int .i64 t2.n.a,.int .i64 t2.n.b,.int .u64 t2.n.v,.int .i64 t2.n.t,.slice t2.p.AL t2.n.L.length t2.p.cL,.slice t2.p.Ab (len t2.n.body) t2.p.cb,.slice t2.p.Ae (len t2.n.els) t2.p.ce,.bool t2.n.he,.slice l3.A l3.zs.length l3.c]) (by simp[results,results211,go_sem,y0,y1,y2,y3,y4,y5,y6,y7,y8,y9]) rfl ?_
 rw[<-HP.out]
 have hnw:w.heap.size≠R:=S3.out.b.ne
 refine⟨_,p3,er3,rfl,Rst.eq (by(repeat refine Rst.setOther ?_ hge hnw _ _);exact S3.out.r) HE.out.1,by(repeat refine Kx.setCell ?_ (.inr (zq _)) _);exact S3.out.k,⟨⟨t2,l3⟩,rfl⟩,λx q e=>?_⟩
 obtain⟨n,q1,b,e2,e3,rfl⟩:=HE.out.2 x q e
 have hg:=HG.out _ _ e
 obtain⟨k2,f2,f3,f4⟩:=(HV2.out _ _ e2).in_ (sOne_light hg.2.1)
 obtain⟨k3,f5,f6,f7⟩:=HV3.out _ _ e3
 have hw1:=S1.out.b.lt
 have hw2:=S2.out.b.lt
 have hsz3:=HKk.out.size
 refine⟨⟨k2,k3⟩,?_,by rw[kEl,f3,f6],λw5 ha=>⟨?_,?_⟩⟩
 ·
  have f2':inA t2=inA k2:=f2
  have e9:=congrArg (λv=>match v with|.agg a=>Value.agg (a++#[l3.v])|_=>v) f2'
  have e8:Value.agg (#[.int .i64 k2.n.op,.int .i64 k2.n.a,.int .i64 k2.n.b,.int .u64 k2.n.v,.int .i64 k2.n.t,.slice k2.p.AL k2.n.L.length k2.p.cL,.slice k2.p.Ab (len k2.n.body) k2.p.cb,.slice k2.p.Ae (len k2.n.els) k2.p.ce,.bool k2.n.he]++#[l3.v])=Value.agg (#[.int .i64 k2.n.op,.int .i64 k2.n.a,.int .i64 k2.n.b,.int .u64 k2.n.v,.int .i64 k2.n.t,.slice k2.p.AL k2.n.L.length k2.p.cL,.slice k2.p.Ab (len k2.n.body) k2.p.cb,.slice k2.p.Ae (len k2.n.els) k2.p.ce,.bool k2.n.he]++#[k3.v]):=by rw[f5]
  simp only[inA]at e9
  have e7:=e9.trans e8
  simpa using e7
 ·refine FrK.moves In.ok.more _ _ _ _ _ f4 (agr_of_heap λb hb=>Kx.block (M:=λb=>b=R\/b=w.heap.size) (by(repeat refine Kx.setCell ?_ (.inl (.inr rfl)) _);exact HKk.out.mono (λb hb=>.inl hb)) b hb.2 (by have:=hb.1;omega)) (λb hb=>⟨by have:=hb.1;omega,by simp only[World.size_setCell];exact zj hb.2 hsz3⟩) (by simp only[World.size_setCell];exact hsz3) w5 ha
 ·refine FrK.moves IL.ok.more _ _ _ _ _ f7 (agr_of_heap λb hb=>Kx.block (M:=λb=>b=R\/b=w.heap.size) (by(repeat refine Kx.setCell ?_ (.inl (.inr rfl)) _);exact Kx.refl_) b hb.2 (by have:=hb.1;omega)) (λb hb=>⟨by have:=hb.1;omega,by simp only[World.size_setCell];exact hb.2⟩) (by simp only[World.size_setCell];exact zq _) w5 ha
end
section
variable{R:Nat}{w0 w:World}{A:Option Addr}{c:Nat}{bs:List UInt8}{st:Option Nat}{p:Nat}{er:Value}
theorem rTys_any(h:Rst R w0 w A c bs st p er):
  Calls prog 135 #[pR R] w (RdL 2 (λx:Ty=>([.slice x.p.A x.p.zs.length x.p.c,.slice x.r.A x.r.zs.length x.r.c]:List Value)) kTy (FrK Ty.ok) R w0 w A c bs (st.bind λq=>Bin.gList 64 Bin.gFt bs q)):=by
 have hlt:=h.lt
 have e0:(w.alloc (.cells #[pR R] 88)).cell? ⟨w.heap.size,0,none⟩=some (pR R):=by rw[zv _ _ _ _ rfl];rfl
 have HK:Hid (Kx (Only R) w (w.alloc (.cells #[pR R] 88))):=hid (Kx.refl_.alloc _)
 have hne:¬w.heap.size=R:=by omega
 have HL:=hid (glist_any .Ty 197 (λ_ _=>rfl) #[.pointer (some ⟨w.heap.size,0,none⟩)] Bin.gFt kTy (FrK Ty.ok) (FrK.moves Ty.ok.more) 64 64 rfl (by omega) (h.alloc (.cells #[pR R] 88)) (λw' st' p' er' h' hk'=>c_funcTypes1 h' (hk'.cell (b:=w.heap.size) hne e0) hne))
 have hsz:(w.alloc (.cells #[pR R] 88)).heap.size=w.heap.size+1:=by simp
 clear h e0
 refine postL λP hP=>?_
 have HP:=hid hP
 clear hP
 go_enter func135,ntmps135
 go_wp2_with(first
  |(go_at_call 196;(with_reducible refine HL.out.mono ?_);intro e w1 hx;obtain⟨v1,p1,er1,rfl,h1,hk1,hv1⟩:=hx.o;have H1:=hid h1;have HK1:=hid (HK.out.trans hk1);have HV1:=hid hv1;clear hx h1 hk1 hv1))
 rw[<-HP.out]
 exact RdL.of ⟨_,p1,er1,rfl,H1.out,HK1.out,FrL_from (FrK.moves Ty.ok.more) (by omega) HV1.out⟩
theorem rGls_any(hN:Nam w0)(h:Rst R w0 w A c bs st p er):
  Calls prog 142 #[pR R] w (RdL 11 (λx:Gl=>([.int .i64 x.ty,.bool x.mu,.int .i64 x.i.n.op,.int .i64 x.i.n.a,.int .i64 x.i.n.b,.int .u64 x.i.n.v,.int .i64 x.i.n.t,.slice x.i.p.AL x.i.n.L.length x.i.p.cL,.slice x.i.p.Ab (len x.i.n.body) x.i.p.cb,.slice x.i.p.Ae (len x.i.n.els) x.i.p.ce,.bool x.i.n.he]:List Value)) kGl (FrK Gl.ok) R w0 w A c bs (st.bind λq=>Bin.gList 64 Bin.gGl bs q)):=by
 have hlt:=h.lt
 have e0:(w.alloc (.cells #[pR R] 88)).cell? ⟨w.heap.size,0,none⟩=some (pR R):=by rw[zv _ _ _ _ rfl];rfl
 have HK:Hid (Kx (Only R) w (w.alloc (.cells #[pR R] 88))):=hid (Kx.refl_.alloc _)
 have hne:¬w.heap.size=R:=by omega
 have HL:=hid (glist_any .Gl 206 (λ_ _=>rfl) #[.pointer (some ⟨w.heap.size,0,none⟩)] Bin.gGl kGl (FrK Gl.ok) (FrK.moves Gl.ok.more) 64 64 rfl (by omega) (h.alloc (.cells #[pR R] 88)) (λw' st' p' er' h' hk'=>c_globals1 hN h' (hk'.cell (b:=w.heap.size) hne e0) hne))
 have hsz:(w.alloc (.cells #[pR R] 88)).heap.size=w.heap.size+1:=by simp
 clear h e0
 refine postL λP hP=>?_
 have HP:=hid hP
 clear hP
 go_enter func142,ntmps142
 go_wp2_with(first
  |(go_at_call 205;(with_reducible refine HL.out.mono ?_);intro e w1 hx;obtain⟨v1,p1,er1,rfl,h1,hk1,hv1⟩:=hx.o;have H1:=hid h1;have HK1:=hid (HK.out.trans hk1);have HV1:=hid hv1;clear hx h1 hk1 hv1))
 rw[<-HP.out]
 exact RdL.of ⟨_,p1,er1,rfl,H1.out,HK1.out,FrL_from (FrK.moves Gl.ok.more) (by omega) HV1.out⟩
theorem rEls_any(hN:Nam w0)(h:Rst R w0 w A c bs st p er):
  Calls prog 144 #[pR R] w (RdL 10 (λx:El=>([.int .i64 x.i.n.op,.int .i64 x.i.n.a,.int .i64 x.i.n.b,.int .u64 x.i.n.v,.int .i64 x.i.n.t,.slice x.i.p.AL x.i.n.L.length x.i.p.cL,.slice x.i.p.Ab (len x.i.n.body) x.i.p.cb,.slice x.i.p.Ae (len x.i.n.els) x.i.p.ce,.bool x.i.n.he,.slice x.fs.A x.fs.zs.length x.fs.c]:List Value)) kEl (FrK El.ok) R w0 w A c bs (st.bind λq=>Bin.gList 64 Bin.gEl bs q)):=by
 have hlt:=h.lt
 have e0:(w.alloc (.cells #[pR R] 88)).cell? ⟨w.heap.size,0,none⟩=some (pR R):=by rw[zv _ _ _ _ rfl];rfl
 have HK:Hid (Kx (Only R) w (w.alloc (.cells #[pR R] 88))):=hid (Kx.refl_.alloc _)
 have hne:¬w.heap.size=R:=by omega
 have HL:=hid (glist_any .El 211 (λ_ _=>rfl) #[.pointer (some ⟨w.heap.size,0,none⟩)] Bin.gEl kEl (FrK El.ok) (FrK.moves El.ok.more) 64 64 rfl (by omega) (h.alloc (.cells #[pR R] 88)) (λw' st' p' er' h' hk'=>c_El1 hN h' (hk'.cell (b:=w.heap.size) hne e0) hne))
 have hsz:(w.alloc (.cells #[pR R] 88)).heap.size=w.heap.size+1:=by simp
 clear h e0
 refine postL λP hP=>?_
 have HP:=hid hP
 clear hP
 go_enter func144,ntmps144
 go_wp2_with(first
  |(go_at_call 210;(with_reducible refine HL.out.mono ?_);intro e w1 hx;obtain⟨v1,p1,er1,rfl,h1,hk1,hv1⟩:=hx.o;have H1:=hid h1;have HK1:=hid (HK.out.trans hk1);have HV1:=hid hv1;clear hx h1 hk1 hv1))
 rw[<-HP.out]
 exact RdL.of ⟨_,p1,er1,rfl,H1.out,HK1.out,FrL_from (FrK.moves El.ok.more) (by omega) HV1.out⟩
theorem rDas_any(hN:Nam w0)(h:Rst R w0 w A c bs st p er):
  Calls prog 146 #[pR R] w (RdL 10 (λx:Da=>([.int .i64 x.i.n.op,.int .i64 x.i.n.a,.int .i64 x.i.n.b,.int .u64 x.i.n.v,.int .i64 x.i.n.t,.slice x.i.p.AL x.i.n.L.length x.i.p.cL,.slice x.i.p.Ab (len x.i.n.body) x.i.p.cb,.slice x.i.p.Ae (len x.i.n.els) x.i.p.ce,.bool x.i.n.he,.slice x.bs.A x.bs.bs.length x.bs.c]:List Value)) kDa (FrK Da.ok) R w0 w A c bs (st.bind λq=>Bin.gList 64 Bin.gDa bs q)):=by
 have hlt:=h.lt
 have e0:(w.alloc (.cells #[pR R] 88)).cell? ⟨w.heap.size,0,none⟩=some (pR R):=by rw[zv _ _ _ _ rfl];rfl
 have HK:Hid (Kx (Only R) w (w.alloc (.cells #[pR R] 88))):=hid (Kx.refl_.alloc _)
 have hne:¬w.heap.size=R:=by omega
 have HL:=hid (glist_any .Da 220 (λ_ _=>rfl) #[.pointer (some ⟨w.heap.size,0,none⟩)] Bin.gDa kDa (FrK Da.ok) (FrK.moves Da.ok.more) 64 64 rfl (by omega) (h.alloc (.cells #[pR R] 88)) (λw' st' p' er' h' hk'=>c_Da1 hN h' (hk'.cell (b:=w.heap.size) hne e0) hne))
 have hsz:(w.alloc (.cells #[pR R] 88)).heap.size=w.heap.size+1:=by simp
 clear h e0
 refine postL λP hP=>?_
 have HP:=hid hP
 clear hP
 go_enter func146,ntmps146
 go_wp2_with(first
  |(go_at_call 219;(with_reducible refine HL.out.mono ?_);intro e w1 hx;obtain⟨v1,p1,er1,rfl,h1,hk1,hv1⟩:=hx.o;have H1:=hid h1;have HK1:=hid (HK.out.trans hk1);have HV1:=hid hv1;clear hx h1 hk1 hv1))
 rw[<-HP.out]
 exact RdL.of ⟨_,p1,er1,rfl,H1.out,HK1.out,FrL_from (FrK.moves Da.ok.more) (by omega) HV1.out⟩
end
section
variable{R:Nat}{w0 w:World}{A:Option Addr}{c:Nat}{bs:List UInt8}{st:Option Nat}{p:Nat}{er:Value}
def RdS8(R:Nat)(w0 w:World)(A:Option Addr)(c:Nat)(bs:List UInt8)(res:Option (ByteArray×Nat)):Ending->World->Prop:=
 RdQ R w0 w A c bs res (λ_ v x=>v=.string x) (λv=>∃x:ByteArray,v=.string x)
theorem rname_any(hT:U8T w0)(hE:Et w0)(h:Rst R w0 w A c bs st p er):
  Calls prog 194 #[pR R] w (RdS8 R w0 w A c bs (st.bind λq=>Bin.gName bs q)):=by
 have HB:=hid (rbytes_any 64 64 rfl (by omega) h)
 obtain⟨r,hr⟩:∃r,(st.bind λq=>Bin.gList 64 Bin.gByte bs q)=r:=⟨_,rfl⟩
 rw[show(st.bind λq=>Bin.gName bs q)=r.bind (λx=>(if Bin.text x.1=true then Bin.ret (⟨x.1.toArray⟩:ByteArray)else Bin.fl) bs x.2)from res_of hr]
 rw[hr]at HB
 have HG:=hid (λx q (e:r=some (x,q))=>(h.got (Bin.list_got Bin.byte_got 64) (hr.trans e)).2.1)
 have HT:=hid hT
 have HE:=hid hE
 clear hT hE hr
 refine postL λP hP=>?_
 have HP:=hid hP
 have hRw:=h.lt
 clear h hP
 go_enter func194,ntmps194
 go_wp2_with fail
 refine HB.out.mono ?_
 intro e w1 hx
 obtain⟨v1,p1,er1,rfl,h1,hk1,hv1⟩:=hx.o
 have H1:=hid h1
 have HK1:=hid hk1
 have hb1:Below w0.heap.size w0 w1:=h1.bel
 have HA:=hid ((h1.alloc (.cells #[.pointer none] 115)))
 have hU:U8T (w1.alloc (.cells #[.pointer none] 115)):=HT.out.below HA.out.bel
 clear h1 hk1 hx
 have main:∀(l:List UInt8) (A1:Option Addr) (c1:Nat),v1=.slice A1 l.length c1->l.length<=c1->c1<=maxLen->Sl w1 w1.heap.size A1 (u8s l)->(r=none/\l=[])\/(∃q,r=some (l,q))->Bin.text l=true->
   ∀(e:Ending) (w':World),e=.returned (.string ⟨l.toArray⟩)->Below w1.heap.size w1 w'->P e w':=by
  intro l A1 c1 _ _ _ _ hc ht e w' he hb
  rw[<-HP.out]
  refine⟨_,p1,er1,he,(H1.out.later hb).eq ?_,HK1.out.trans (Kx.of_below hb),⟨_,rfl⟩,λx q hx=>?_⟩
  ·
   rcases hc with⟨rfl,-⟩|⟨q,rfl⟩
   ·rfl
   ·simp only[Option.bind_some,Option.map_some];rw[if_pos ht];rfl
  ·
   rcases hc with⟨rfl,-⟩|⟨q,rfl⟩
   ·cases hx
   ·
    simp only[Option.bind_some]at hx
    rw[if_pos ht]at hx
    obtain⟨rfl,-⟩:=Bin.ret_some hx
    rfl
 obtain⟨l,A1,c1,rfl,hl1,hc1,hsk,hc⟩:∃(l:List UInt8) (A1:Option Addr) (c1:Nat),v1=.slice A1 l.length c1/\l.length<=c1/\c1<=maxLen/\(∀w',Kx (Only R) w1 w'->Sl w' w1.heap.size A1 (u8s l))/\((r=none/\l=[])\/(∃q,r=some (l,q))):=by
  cases r with
  |none=>exact⟨[],none,0,hv1,zq _,qw _,λ_ _=>Sl.nil_,.inl ⟨rfl,rfl⟩⟩
  |some xq=>
   obtain⟨x,q⟩:=xq
   obtain⟨A1,bl,c1,e1,g1,g2,e2,g3,-⟩:=hv1
   have e2:bl=x:=by simpa using e2
   subst e2
   exact⟨bl,A1,c1,e1,g1,g2,λw' hk=>RowsAt.sl (by rw[u8_rows];exact g3 w' (agr_of_heap λb hb=>hk.block b hb.2 (by intro e;have e:b=R:=e;have:=hb.1;omega))),.inr ⟨q,rfl⟩⟩
 have hs1:=hsk w1 Kx.refl_
 have HSk:=hid hsk
 have HS:=hid hs1
 have hlA:w1.heap.size<=(w1.alloc (.cells #[.pointer none] 115)).heap.size:=by simp
 have HCh:=hid (check_new A1 c1 l (w1.alloc (.cells #[.pointer none] 115)) hU ((HS.out.below ((zx _ _).alloc (zq _) _)).more hlA) hl1 hc1)
 have HCv:Hid (∀w',Kx (Only R) w1 w'->(convert 35 9 (.slice A1 l.length c1)).run prog w'=.ok (.string ⟨l.toArray⟩) w'):=hid λw' hb=>run_str_of (P:=prog) 35 9 5 underlying35 underlying5 underlying9 (HSk.out w' hb) c1
 have HM:=hid (main l A1 c1 rfl hl1 hc1 hs1 hc)
 have HC:=hid hc
 have hll:l.length<=64:=by
  rcases hc with⟨-,rfl⟩|⟨q,e⟩
  ·simp
  ·exact HG.out _ _ e
 clear hv1 hs1 hU main hc hsk
 by_cases ht:Bin.text l=true
 ·
  have hp:(Utf.all l).2=none:=by
   unfold Bin.text at ht
   cases hx:(Utf.all l).2 with
   |none=>rfl
   |some p=>rw[hx]at ht;cases ht
  rw[hp]at HCh
  have HMt:=hid (HM.out ht)
  clear hp ht
  go_wp2_with(first
   |(go_at_call 165;(with_reducible refine HCh.out.mono ?_);rintro e w2 ⟨hb2,v2,rfl,rfl,-⟩;have HB2:Hid (Below w1.heap.size w1 w2):=hid (((zx _ _).alloc (zq _) _).trans (hb2.mono (by simp)));have hcv:=HCv.out _ (Kx.of_below HB2.out);clear hb2)
   |(go_at_call 54;refine(as_nil _ _).mono ?_;rintro e w' ⟨rfl,rfl⟩))
  exact HMt.out _ _ rfl HB2.out
 ·
  obtain⟨q,rfl⟩:∃q,r=some (l,q):=by
   rcases HC.out with⟨-,e⟩|h
   ·exact absurd (by rw[e];rfl) ht
   ·exact h
  obtain⟨sp,hp⟩:∃sp,(Utf.all l).2=some sp:=by
   cases hx:(Utf.all l).2 with
   |none=>exact absurd (by unfold Bin.text;rw[hx];rfl) ht
   |some p=>exact⟨p,rfl⟩
  rw[hp]at HCh
  have hfin:∀(e:Ending) (w':World) (er':Value),e=.returned (.string ⟨l.toArray⟩)->Rst R w0 w' A c bs none p1 er'->Kx (Only R) w w'->P e w':=by
   intro e w' er' he hr hk
   rw[<-HP.out]
   have hn:((some (l,q)).bind λx=>(if Bin.text x.1=true then Bin.ret (⟨x.1.toArray⟩:ByteArray)else Bin.fl) bs x.2)=none:=by simp only[Option.bind_some];rw[if_neg ht];rfl
   rw[hn]
   exact⟨_,p1,er',he,hr,hk,⟨_,rfl⟩,λ_ _ e=>by cases e⟩
  have HF:=hid hfin
  clear hfin ht hp HM
  go_wp2_with(first
   |(go_at_call 165;(with_reducible refine HCh.out.mono ?_);rintro e w2 ⟨hb2,v2,rfl,⟨sb,so,rfl,hs1,hs2⟩,hnew⟩;have HB2:Hid (Below w1.heap.size w1 w2):=hid (((zx _ _).alloc (zq _) _).trans (hb2.mono (by simp)));have HS1:=hid hs1;have HY2:Hid (w2.cell? ⟨w1.heap.size,0,none⟩=some (.pointer none)):=hid ((hb2.cell (p:=⟨w1.heap.size,0,none⟩) (by simp)).trans (by rw[zv _ _ _ _ rfl];rfl));have HNw:=hid (hnew _ _ _ _ rfl);have HAs:=hid (as_hit ⟨sb,so,none⟩ ⟨w1.heap.size,0,none⟩ (.pointer none) w2 (HE.out.below (H1.out.later HB2.out).bel) ((hb2.cell (p:=⟨w1.heap.size,0,none⟩) (by simp)).trans (by rw[zv _ _ _ _ rfl];rfl)) ((hb2.frozen (p:=⟨w1.heap.size,0,none⟩) (by simp)).trans (zw _ _ _ _ rfl)));clear hb2 hs1 hs2 hnew)
   |(go_at_call 54;refine HAs.out.mono ?_;rintro e w3 ⟨rfl,hw3⟩;have HW3:=hid hw3;clear hw3))
  have hRl:=H1.out.lt
  have hge:=H1.out.bel.size
  have hsb:w1.heap.size+1<=sb:=by simpa using HNw.out
  have HR3:Hid (Rst R w0 w3 A c bs (some q) p1 er1):=hid (by rw[HW3.out];exact(((((H1.out.later HB2.out).alloc _).alloc _).alloc _).alloc _).setOther hge (by omega) 0 _)
  have HK3:Hid (Kx (Only R) w1 w3):=hid (by rw[HW3.out];exact(((((Kx.of_below HB2.out).alloc _).alloc _).alloc _).alloc _).setCell (p:=⟨w1.heap.size,0,none⟩) (.inr (zq _)) _)
  have HT3:Hid (w3.cell? ⟨w1.heap.size,0,none⟩=some (.pointer (some ⟨sb,so,none⟩))):=hid (by rw[HW3.out];exact ze _ _ _ (((((Kx.refl_ (M:=λ_=>False)).alloc _).alloc _).alloc _).alloc _ |>.cell (by simp) HY2.out))
  have HS3:Hid (w3.cell? ⟨sb,so,none⟩=some (.int .i64 (sp:Int))):=hid (by rw[HW3.out];exact(zk _ _ _ _ (by intro e;injection e with e;omega)).trans (((((Kx.refl_ (M:=λ_=>False)).alloc _).alloc _).alloc _).alloc _ |>.cell (by simp) HS1.out))
  obtain⟨W1,hW1⟩:∃W1:World,W1=w3.drew:=⟨_,rfl⟩
  have HR4:Hid (Rst R w0 W1 A c bs (some q) p1 er1):=hid (by rw[hW1];exact HR3.out.drewN 1)
  have HK4:Hid (Kx (Only R) w1 W1):=hid (by rw[hW1];exact HK3.out.drewN 1)
  have HT4:Hid (W1.cell? ⟨w1.heap.size,0,none⟩=some (.pointer (some ⟨sb,so,none⟩))):=hid (by rw[hW1];exact HT3.out)
  have HS4:Hid (W1.cell? ⟨sb,so,none⟩=some (.int .i64 (sp:Int))):=hid (by rw[hW1];exact HS3.out)
  refine wp_region_held_drew (S:=λw'=>w'.cell? ⟨R,1,none⟩=some (.int .i64 p1)/\w'.cell? ⟨w1.heap.size,0,none⟩=some (.pointer (some ⟨sb,so,none⟩))/\w'.cell? ⟨sb,so,none⟩=some (.int .i64 (sp:Int))) (by kernel_rfl) (by rw[<-hW1];exact⟨HR4.out.c1,HT4.out,HS4.out⟩) (λhHeld=>?_)
  rw[<-hW1]at hHeld⊢
  clear hW1 HR3 HK3 HT3 HS3 HW3
  refine rtk 0 11 ?_
  refine rtk 1 12 ?_
  refine rtk 2 13 ?_
  refine rtk 3 14 ?_
  refine rtk 4 15 ?_
  refine rtk 5 16 ?_
  refine rtk 6 17 ?_
  refine rtk 7 18 ?_
  refine rtk 8 19 ?_
  refine rtk 9 20 ?_
  refine rtk 10 21 ?_
  refine rtk 11 22 ?_
  refine rtk 12 23 ?_
  refine rcl 13 λK hK=>?_
  go_simp
  refine(rfail_any _ 2 HR4.out).mono ?_
  rintro e w4 ⟨rfl,er4,h4,hk4⟩
  have H4:=hid h4
  have HK4':=hid (HK4.out.trans hk4)
  have hcv:=HCv.out _ HK4'.out
  have HT5:=hid (hk4.cell (show¬w1.heap.size=R by omega) HT4.out)
  have HS5:=hid (hk4.cell (show¬sb=R by omega) HS4.out)
  clear h4 hk4
  go_wp2_with fail
  refine rbk hK ⟨H4.out.c1,HT5.out,HS5.out⟩ λhHeld=>?_;clear hK K
  refine wpAnyH_done (by kernel_rfl) ?_ _
  clear hHeld
  go_wp2_with fail
  exact HF.out _ _ _ rfl H4.out (HK1.out.trans' HK4'.out (λb hb=>.inl hb))
end
end Go.Proofs.YteoijlfipmaoeaaGreatDoor
