import Derived.Test.YteoijlfipmaoeaaGreatDoorPJ19
import Derived.Test.YteoijlfipmaoeaaGreatDoorPJ21
set_option linter.unusedVariables false
set_option linter.unusedSimpArgs false
set_option maxRecDepth 100000
set_option maxHeartbeats 16000000
namespace Go.Proofs.YteoijlfipmaoeaaGreatDoor
open Lib (hid)
open Go.RowKit Trx
open Go.Proofs.Tryz
def FrF(lo:Nat)(w:World)(v:Value)(f:Fo):Prop:=∃A c,v=.slice A (len f) c/\len f<=c/\c<=maxLen/\NewF (Win lo w) w w.heap.size A f
def RdX(R:Nat)(w0 w:World)(A:Option Addr)(c:Nat)(bs:List UInt8)(res:Option (Fo×Nat)):Ending->World->Prop:=λe w'=>∃v p' er',e=.returned v/\Rst R w0 w' A c bs (res.map (·.2)) p' er'/\Kx (Only R) w w'/\match res with
 |none=>v=.slice none 0 0
 |some x=>FrF w.heap.size w' v x.1
section
variable{R:Nat}{w0 w:World}{A:Option Addr}{c:Nat}{bs:List UInt8}{st:Option Nat}{p:Nat}{er:Value}
theorem rexpr_any(hN:Nam w0)(h:Rst R w0 w A c bs st p er):
  Calls prog 218 #[pR R] w (RdX R w0 w A c bs (st.bind λq=>Bin.gExpr bs q)):=by
 have H:=hid h
 have c0:=h.c0
 have c1:=h.c1
 have c2:=h.c2
 obtain⟨r,hr⟩:∃r,(st.bind λq=>Bin.gExpr bs q)=r:=⟨_,rfl⟩
 rw[hr]
 refine postL λP hP=>?_
 have HP:=hid hP
 rcases h.lk with⟨rfl,rfl⟩|⟨rfl,⟨b,o,rfl⟩⟩
 ·
  rw[Option.bind_some]at hr
  have hd1:Below w.heap.size w (w.drewN 1):=(zx _ _).drew
  have HG:=hid (Get_any A c bs p (w.drewN 1) (hN.below (h.drewN 1).bel) (((h.drewN 1).sl.below (h.drewN 1).bel).more (h.drewN 1).bel.size) h.hc h.hm h.hp)
  unfold Bin.gExpr at hr
  cases hg:rdE (bs.drop p) p with
  |error er1=>
   rw[hg]at HG hr
   have HR:=hid hr
   unfold GetP at HG
   clear h hN hr hg hP hd1
   go_enter func218,ntmps218
   go_wp2_with fail
   refine wp_region_held_drew (S:=λw'=>w'.cell? ⟨R,0,none⟩=some (.slice A bs.length c)/\w'.cell? ⟨R,1,none⟩=some (.int .i64 p)) (by kernel_rfl) ⟨c0,c1⟩ (λhHeld=>?_)
   refine rtk 0 12 ?_
   refine rtk 1 13 ?_
   refine rtk 2 14 ?_
   refine rtk 3 15 ?_
   refine rtk 4 16 ?_
   refine rtk 5 17 ?_
   refine rtk 6 18 ?_
   refine rtk 7 19 ?_
   refine rcl 8 λK hK=>?_
   go_simp
   refine HG.out.mono ?_
   rintro e w1 ⟨v1,rfl,⟨sb,so,rfl,-,-⟩,hb1⟩
   have H1:Hid (Rst R w0 w1 A c bs (some p) p .nilIface):=hid ((H.out.drewN 1).later hb1)
   have HK1:Hid (Kx (Only R) w w1):=hid (Kx.w1.trans (Kx.of_below hb1))
   have d0:=H1.out.c0
   have d1:=H1.out.c1
   have d2:=H1.out.c2
   have df:=H1.out.fr 2
   clear hb1 hHeld c0 c1
   go_wp2_with fail
   refine rbk hK ⟨d0,d1⟩ λhHeld=>?_;clear hK K
   refine rtk 9 11 ?_
   refine rtk 10 21 ?_
   refine rtk 11 22 ?_
   refine rtk 12 23 ?_
   refine rtk 13 3 ?_
   refine rtk 14 4 ?_
   refine rtk 15 5 ?_
   refine wpAnyH_done (by kernel_rfl) ?_ _
   clear hHeld
   go_wp2_with fail
   rw[<-HP.out,<-HR.out]
   exact⟨_,p,_,rfl,H1.out.setEr ⟨sb,so,rfl⟩,HK1.out.setCell (p:=⟨R,2,none⟩) (.inl rfl) _,rfl⟩
  |ok x=>
   obtain⟨f,l',p'⟩:=x
   rw[hg]at HG hr
   have hgot:=(Bin.expr_got bs p f p' h.hp (by unfold Bin.gExpr;rw[hg])).2.2.2
   have HR:=hid hr
   unfold GetP at HG
   clear h hN hr hg hP hd1
   go_enter func218,ntmps218
   go_wp2_with fail
   refine wp_region_held_drew (S:=λw'=>w'.cell? ⟨R,0,none⟩=some (.slice A bs.length c)/\w'.cell? ⟨R,1,none⟩=some (.int .i64 p)) (by kernel_rfl) ⟨c0,c1⟩ (λhHeld=>?_)
   refine rtk 0 12 ?_
   refine rtk 1 13 ?_
   refine rtk 2 14 ?_
   refine rtk 3 15 ?_
   refine rtk 4 16 ?_
   refine rtk 5 17 ?_
   refine rtk 6 18 ?_
   refine rtk 7 19 ?_
   refine rcl 8 λK hK=>?_
   go_simp
   refine HG.out.mono ?_
   rintro e w1 ⟨A1,c3,rfl,hl1,hm1,hn1,hb1⟩
   have H1:Hid (Rst R w0 w1 A c bs (some p) p .nilIface):=hid ((H.out.drewN 1).later hb1)
   have HK1:Hid (Kx (Only R) w w1):=hid (Kx.w1.trans (Kx.of_below hb1))
   have HN1:=hid hn1
   have d0:=H1.out.c0
   have d1:=H1.out.c1
   have df:=H1.out.fr 1
   have hRl:R<w.heap.size:=H.out.lt
   clear hb1 hHeld c0 c1 hn1
   go_wp2_with fail
   refine rbk hK ⟨d0,d1⟩ λhHeld=>?_;clear hK K
   refine rtk 9 11 ?_
   refine rtk 10 21 ?_
   refine rtk 11 22 ?_
   refine rtk 12 23 ?_
   refine rtk 13 3 ?_
   refine rtk 14 4 ?_
   refine rtk 15 5 ?_
   refine wpAnyH_done (by kernel_rfl) ?_ _
   clear hHeld
   go_wp2_with fail
   rw[<-HP.out,<-HR.out]
   refine⟨_,p',.nilIface,rfl,H1.out.setAt hgot,HK1.out.setCell (p:=⟨R,1,none⟩) (.inl rfl) _,A1,c3,rfl,hl1,hm1,?_⟩
   refine HN1.out.move (λb o hb=>zk _ _ _ _ (by have:=hb.1;intro e;injection e with e;subst e;exact absurd this (by show¬w.heap.size<=R;omega))) (λb hb=>⟨hb.1,by have:=hb.2;simpa[World.setCell]using this⟩) (by simp[World.setCell])
 ·
  rw[Option.bind_none]at hr
  subst hr
  clear h hN hP
  go_enter func218,ntmps218
  go_wp2_with fail
  rw[<-HP.out]
  exact⟨_,p,_,rfl,H.out,Kx.refl_,rfl⟩
end
def zIn:In:=⟨⟨0,0,0,0,0,[],.nil,.nil,false⟩,⟨none,0,none,0,none,0⟩⟩
def FrI(lo:Nat)(w:World)(v:Value)(n:Nd):Prop:=∃i:In,v=inA i/\i.n=n/\NewN (Win lo w) w w.heap.size i
theorem gOne_of{st:Option Nat}{bs:List UInt8}{r:Option (Fo×Nat)}(h:(st.bind λq=>Bin.gExpr bs q)=r):(st.bind λq=>Bin.gOne bs q)=r.bind λx=>(match nds x.1 with
  | [n]=>Bin.ret n
  |_=>Bin.fl) bs x.2:=res_of h
theorem NewF.win{lo b o:Nat}{w:World}{B:Nat}{f:Fo}(h:NewF (Win lo w) w B (some ⟨b,o,none⟩) f)(hl:0<len f):lo<=b:=by
 rcases qm b lo with hb|hb
 ·
  exfalso
  obtain⟨b1,o1,n1,q1,e1,-,hat1⟩:=(NewF.get h).at_ hl
  injection e1 with e1
  injection e1 with e1 e2
  subst e1 e2
  have hc:=hat1.nine.1
  rw[Nat.zero_mul,qe]at hc
  have ha:Agr (Win lo w) w (w.setCell ⟨b,o,none⟩ (.bool true)):=λb' o' hb'=>zk _ _ _ _ (by have:=hb'.1;intro e;injection e with e;omega)
  obtain⟨b2,o2,n2,q2,e2,-,hat2⟩:=(h _ ha).at_ hl
  injection e2 with e2
  injection e2 with e2 e3
  subst e2 e3
  have hd:=hat2.nine.1
  rw[Nat.zero_mul,qe,ze _ _ _ hc]at hd
  injection hd with hd
  cases hd
 ·exact hb
theorem NewF.one{lo b o:Nat}{w:World}{f:Fo}{n:Nd}{q:Pl}(h:NewF (Win lo w) w w.heap.size (some ⟨b,o,none⟩) f)(hl:0<len f)(hn:(nds f)[0]? =some n)(hat:NdAt w w.heap.size n q b o):NewN (Win lo w) w w.heap.size ⟨n,q⟩:=by
 intro w' ha
 have hb:=h.win hl
 obtain⟨b2,o2,n2,q2,e2,hn2,hat2⟩:=(h w' ha).at_ hl
 injection e2 with e2
 injection e2 with e2 e3
 subst e2 e3
 rw[hn]at hn2
 injection hn2 with hn2
 subst hn2
 rw[Nat.zero_mul,qe]at hat2
 have hw:∀k,w'.cell? ⟨b,k,none⟩=w.cell? ⟨b,k,none⟩:=λk=>ha b k ⟨hb,hat.lt⟩
 obtain⟨-,-,-,-,-,m5,m6,m7,-⟩:=hat.nine
 obtain⟨-,-,-,-,-,k5,k6,k7,-⟩:=hat2.nine
 rw[hw,m5]at k5
 rw[hw,m6]at k6
 rw[hw,m7]at k7
 injection k5 with k5;injection k5 with a1 a2 a3
 injection k6 with k6;injection k6 with a4 a5 a6
 injection k7 with k7;injection k7 with a7 a8 a9
 have eq:q2=q:=by
  obtain⟨x1,x2,x3,x4,x5,x6⟩:=q2
  obtain⟨z1,z2,z3,z4,z5,z6⟩:=q
  simp only at a1 a3 a4 a6 a7 a9
  subst a1 a3 a4 a6 a7 a9
  rfl
 rw[<-eq]
 exact hat2.ok
section
variable{R:Nat}{w0 w:World}{A:Option Addr}{c:Nat}{bs:List UInt8}{st:Option Nat}{p:Nat}{er:Value}
theorem rone_any(hN:Nam w0)(h:Rst R w0 w A c bs st p er):
  Calls prog 207 #[pR R] w (RdQ R w0 w A c bs (st.bind λq=>Bin.gOne bs q) (λw' v n=>FrI w.heap.size w' v n) (λv=>∃i:In,v=inA i)):=by
 have HA:=hid (h.alloc (.cells #[.int .i64 0,.int .i64 0,.int .i64 0,.int .u64 0,.int .i64 0,.slice none 0 0,.slice none 0 0,.slice none 0 0,.bool false] 59))
 have HK:=hid (Kx.refl_.alloc (.cells #[.int .i64 0,.int .i64 0,.int .i64 0,.int .u64 0,.int .i64 0,.slice none 0 0,.slice none 0 0,.slice none 0 0,.bool false] 59):Kx (Only R) w (w.alloc (.cells #[.int .i64 0,.int .i64 0,.int .i64 0,.int .u64 0,.int .i64 0,.slice none 0 0,.slice none 0 0,.slice none 0 0,.bool false] 59)))
 have HT:=hid (Bk.new h.lt #[.int .i64 0,.int .i64 0,.int .i64 0,.int .u64 0,.int .i64 0,.slice none 0 0,.slice none 0 0,.slice none 0 0,.bool false] 59 _ rfl rfl)
 have HB:=hid (rexpr_any hN HA.out)
 have c1:=h.c1
 have hRl:=h.lt
 obtain⟨r,hr⟩:∃r,(st.bind λq=>Bin.gExpr bs q)=r:=⟨_,rfl⟩
 rw[gOne_of hr]
 rw[hr]at HB
 have hge:=h.bel.size
 have hsz:(w.alloc (.cells #[.int .i64 0,.int .i64 0,.int .i64 0,.int .u64 0,.int .i64 0,.slice none 0 0,.slice none 0 0,.slice none 0 0,.bool false] 59)).heap.size=w.heap.size+1:=by simp
 clear hr h hN
 have bad:(∀f q,r=some (f,q)->len f≠1)->(r.bind λx=>(match nds x.1 with
  | [n]=>Bin.ret n
  |_=>Bin.fl) bs x.2)=none:=by
  intro hb
  cases r with
  |none=>rfl
  |some x=>
   simp only[Option.bind_some]
   have:=hb x.1 x.2 rfl
   unfold len at this
   cases e:nds x.1 with
   |nil=>rfl
   |cons a t=>cases t with
    |nil=>rw[e]at this;simp at this
    |cons _ _=>rfl
 by_cases hok:∃f q,r=some (f,q)/\len f=1
 ·
  obtain⟨f,qq,rfl,hlf⟩:=hok
  obtain⟨n,hn⟩:∃n,nds f=[n]:=by
   unfold len at hlf
   exact List.length_eq_one_iff.1 hlf
  have hres:((some (f,qq)).bind λx=>(match nds x.1 with
   | [n]=>Bin.ret n
   |_=>Bin.fl) bs x.2)=some (n,qq):=by
   simp only[Option.bind_some,hn]
   rfl
  rw[hres]
  refine postL λP hP=>?_
  have HP:=hid hP
  have HN:=hid hn
  clear hP hres bad hn
  unfold RdX at HB
  go_enter func207,ntmps207
  go_wp2_with(first
   |(go_at_call 218;(with_reducible refine HB.out.mono ?_);rintro e w1 ⟨v1,p1,er1,rfl,h1,hk1,⟨A1,d1,rfl,hl1,hm1,hf1⟩⟩;obtain⟨b1,o1,n1,q,rfl,hn1,hat⟩:=(NewF.get hf1).at_ (i:=0) (by rw[hlf];omega);have hnn:n1=n:=(by have h5:=hn1;rw[HN.out]at h5;injection h5 with h5;exact h5.symm);subst hnn;rw[hlf];have H1:=hid h1;have HK1:=hid (HK.out.trans hk1);have HT1:=hid (HT.out.kx hk1);have HF1:=hid hf1;have HAt:=hid hat;obtain⟨m0,m1,m2,m3,m4,m5,m6,m7,m8⟩:=hat.nine;have hbl:=hat.lt;simp only[Nat.zero_mul,qe]at m0 m1 m2 m3 m4 m5 m6 m7 m8;have y0:=HT1.out.cell 0 _ rfl;have y1:=HT1.out.cell 1 _ rfl;have y2:=HT1.out.cell 2 _ rfl;have y3:=HT1.out.cell 3 _ rfl;have y4:=HT1.out.cell 4 _ rfl;have y5:=HT1.out.cell 5 _ rfl;have y6:=HT1.out.cell 6 _ rfl;have y7:=HT1.out.cell 7 _ rfl;have y8:=HT1.out.cell 8 _ rfl;have g0:=HT1.out.fr 0;have g1:=HT1.out.fr 1;have g2:=HT1.out.fr 2;have g3:=HT1.out.fr 3;have g4:=HT1.out.fr 4;have g5:=HT1.out.fr 5;have g6:=HT1.out.fr 6;have g7:=HT1.out.fr 7;have g8:=HT1.out.fr 8;have hwin:=hf1.win (by rw[hlf];omega);have HI1:=hid (hf1.one (by rw[hlf];omega) hn1 (by simpa using hat));have hne:b1≠w.heap.size:=(by rw[hsz]at hwin;omega);clear h1 hk1 hf1 hat hn1))
  refine bodyPost_ret (v:=.agg #[.int .i64 n1.op,.int .i64 n1.a,.int .i64 n1.b,.int .u64 n1.v,.int .i64 n1.t,.slice q.AL n1.L.length q.cL,.slice q.Ab (len n1.body) q.cb,.slice q.Ae (len n1.els) q.ce,.bool n1.he]) (by simp[results,results207,go_sem,y0,y1,y2,y3,y4,y5,y6,y7,y8]) rfl ?_
  rw[<-HP.out]
  have hnw:w.heap.size≠R:=HT1.out.ne
  refine⟨_,p1,er1,rfl,(((((((((H1.out.setOther hge hnw 0 _).setOther hge hnw 1 _).setOther hge hnw 2 _).setOther hge hnw 3 _).setOther hge hnw 4 _).setOther hge hnw 5 _).setOther hge hnw 6 _).setOther hge hnw 7 _).setOther hge hnw 8 _),(((((((((HK1.out.setCell (p:=⟨w.heap.size,0,none⟩) (.inr (zq _)) _).setCell (p:=⟨w.heap.size,1,none⟩) (.inr (zq _)) _).setCell (p:=⟨w.heap.size,2,none⟩) (.inr (zq _)) _).setCell (p:=⟨w.heap.size,3,none⟩) (.inr (zq _)) _).setCell (p:=⟨w.heap.size,4,none⟩) (.inr (zq _)) _).setCell (p:=⟨w.heap.size,5,none⟩) (.inr (zq _)) _).setCell (p:=⟨w.heap.size,6,none⟩) (.inr (zq _)) _).setCell (p:=⟨w.heap.size,7,none⟩) (.inr (zq _)) _).setCell (p:=⟨w.heap.size,8,none⟩) (.inr (zq _)) _),⟨⟨n1,q⟩,rfl⟩,λy qy e=>?_⟩
  injection e with e
  injection e with e1 e2
  subst e1
  refine⟨⟨n1,q⟩,rfl,rfl,?_⟩
  have hm:=HI1.out
  rw[hsz]at hm
  intro wz hz
  refine(hm wz (λb o hb=>?_)).more (by simp[World.setCell])
  rw[hz b o ⟨by have:=hb.1;omega,by have:=hb.2;simpa[World.setCell]using this⟩]
  have hbn:b≠w.heap.size:=by have:=hb.1;omega
  simp[zk,hbn,Ne.symm hbn]
 ·
  have hb:∀f q,r=some (f,q)->len f≠1:=λf q e h1=>hok ⟨f,q,e,h1⟩
  rw[bad hb]
  refine postL λP hP=>?_
  have HP:=hid hP
  have hv:∀(w':World) (v:Value),(match r with
   |none=>v=.slice none 0 0
   |some x=>FrF (w.alloc (.cells #[.int .i64 0,.int .i64 0,.int .i64 0,.int .u64 0,.int .i64 0,.slice none 0 0,.slice none 0 0,.slice none 0 0,.bool false] 59)).heap.size w' v x.1)->∃A' l c',v=.slice A' l c'/\((l:Int)==1)=false:=by
   intro w' v h
   cases r with
   |none=>exact⟨none,0,0,h,rfl⟩
   |some x=>
    obtain⟨A',c',h1,-⟩:=h
    have:=hb x.1 x.2 rfl
    exact⟨A',len x.1,c',h1,by simp;omega⟩
  have HV:=hid hv
  clear hP bad hok hb hv
  unfold RdX at HB
  go_enter func207,ntmps207
  go_wp2_with(first
   |(go_at_call 218;(with_reducible refine HB.out.mono ?_);rintro e w1 ⟨v1,p1,er1,rfl,h1,hk1,hv1⟩;obtain⟨A1,l1,d1,rfl,t1⟩:=HV.out _ _ hv1;have H1:=hid h1;have HK1:=hid (HK.out.trans hk1);have HT1:=hid (HT.out.kx hk1);clear h1 hk1 hv1)
   |(go_at_call 131;(with_reducible refine(rfail_any (p:Int) 2 H1.out).mono ?_);rintro e w2 ⟨rfl,er2,h2,hk2⟩;have H2:=hid h2;have HK2:=hid (HK1.out.trans hk2);have HT2:=hid (HT1.out.kx hk2);have y0:=HT2.out.cell 0 _ rfl;have y1:=HT2.out.cell 1 _ rfl;have y2:=HT2.out.cell 2 _ rfl;have y3:=HT2.out.cell 3 _ rfl;have y4:=HT2.out.cell 4 _ rfl;have y5:=HT2.out.cell 5 _ rfl;have y6:=HT2.out.cell 6 _ rfl;have y7:=HT2.out.cell 7 _ rfl;have y8:=HT2.out.cell 8 _ rfl;have g0:=HT2.out.fr 0;have g1:=HT2.out.fr 1;have g2:=HT2.out.fr 2;have g3:=HT2.out.fr 3;have g4:=HT2.out.fr 4;have g5:=HT2.out.fr 5;have g6:=HT2.out.fr 6;have g7:=HT2.out.fr 7;have g8:=HT2.out.fr 8;clear h2 hk2))
  refine bodyPost_ret (v:=.agg #[.int .i64 0,.int .i64 0,.int .i64 0,.int .u64 0,.int .i64 0,.slice none 0 0,.slice none 0 0,.slice none 0 0,.bool false]) (by simp[results,results207,go_sem,y0,y1,y2,y3,y4,y5,y6,y7,y8]) rfl ?_
  rw[<-HP.out]
  have hnw:w.heap.size≠R:=HT2.out.ne
  exact⟨_,p1,er2,rfl,(((((((((H2.out.setOther hge hnw 0 _).setOther hge hnw 1 _).setOther hge hnw 2 _).setOther hge hnw 3 _).setOther hge hnw 4 _).setOther hge hnw 5 _).setOther hge hnw 6 _).setOther hge hnw 7 _).setOther hge hnw 8 _),(((((((((HK2.out.setCell (p:=⟨w.heap.size,0,none⟩) (.inr (zq _)) _).setCell (p:=⟨w.heap.size,1,none⟩) (.inr (zq _)) _).setCell (p:=⟨w.heap.size,2,none⟩) (.inr (zq _)) _).setCell (p:=⟨w.heap.size,3,none⟩) (.inr (zq _)) _).setCell (p:=⟨w.heap.size,4,none⟩) (.inr (zq _)) _).setCell (p:=⟨w.heap.size,5,none⟩) (.inr (zq _)) _).setCell (p:=⟨w.heap.size,6,none⟩) (.inr (zq _)) _).setCell (p:=⟨w.heap.size,7,none⟩) (.inr (zq _)) _).setCell (p:=⟨w.heap.size,8,none⟩) (.inr (zq _)) _),⟨zIn,rfl⟩,λy qy e=>by cases e⟩
end
def FrL{α β:Type}(k:Nat)(cells:β->List Value)(key:β->α)(Fr:(Nat->Prop)->World->β->Prop)(lo:Nat)(w:World)(v:Value)(xs:List α):Prop:=∃(A:Option Addr) (bl:List β) (c:Nat),v=.slice A bl.length c/\bl.length<=c/\c<=maxLen/\bl.map key=xs/\(∀w2,Agr (Win lo w) w w2->RowsAt w2 w.heap.size A k (bl.map cells))/\∀b∈bl,Fr (Win lo w) w b
def RdL{α β:Type}(k:Nat)(cells:β->List Value)(key:β->α)(Fr:(Nat->Prop)->World->β->Prop)(R:Nat)(w0 w:World)(A:Option Addr)(c:Nat)(bs:List UInt8)(res:Option (List α×Nat)):Ending->World->Prop:=λe w'=>∃v p' er',e=.returned v/\Rst R w0 w' A c bs (res.map (·.2)) p' er'/\Kx (Only R) w w'/\match res with
 |none=>v=.slice none 0 0
 |some x=>FrL k cells key Fr w.heap.size w' v x.1
def Moves{β:Type}(Fr:(Nat->Prop)->World->β->Prop):Prop:=∀(S S':Nat->Prop) (w w':World) (b:β),Fr S w b->Agr S w w'->(∀m,S m->S' m)->w.heap.size<=w'.heap.size->Fr S' w' b
def RdE{α β:Type}(val:β->Value)(key:β->α)(Fr:(Nat->Prop)->World->β->Prop)(R:Nat)(w0 w:World)(A:Option Addr)(c:Nat)(bs:List UInt8)(res:Option (α×Nat)):Ending->World->Prop:=
 RdQ R w0 w A c bs res (λw' v x=>∃b:β,v=val b/\key b=x/\Fr (Win w.heap.size w') w' b) (λv=>∃b:β,v=val b)
theorem gList_of{α:Type}{st:Option Nat}{bs:List UInt8}{lim:Nat}{g:Bin.Rd α}{r:Option (Int×Nat)}(h:(st.bind λq=>Bin.gCount lim bs q)=r):(st.bind λq=>Bin.gList lim g bs q)=r.bind λx=>Bin.gN g x.1.toNat bs x.2:=by
 subst h
 cases st with
 |none=>rfl
 |some q=>
  simp only[Option.bind_some]
  unfold Bin.gList Bin.gCount Bin.bnd
  cases Bin.gNum bs q with
  |none=>rfl
  |some y=>dsimp only;split<;>rfl
def preL{α:Type}(acc:List α):Option (List α×Nat)->Option (List α×Nat)
 |none=>none
 |some x=>some (acc++x.1,x.2)
theorem preL_nil{α:Type}(r:Option (List α×Nat)):preL [] r=r:=by cases r<;>rfl
theorem gN_some{α:Type}{g:Bin.Rd α}{bs:List UInt8}{q q' n:Nat}{x:α}{acc:List α}(h:g bs q=some (x,q')):preL acc (Bin.gN g (n+1) bs q)=preL (acc++[x]) (Bin.gN g n bs q'):=by
 rw[Bin.gN,Bin.bnd_at _ h]
 unfold Bin.bnd
 cases Bin.gN g n bs q' with
 |none=>rfl
 |some y=>simp[preL,Bin.ret]
theorem gN_none{α:Type}{g:Bin.Rd α}{bs:List UInt8}{q n:Nat}{acc:List α}(h:g bs q=none):preL acc (Bin.gN g (n+1) bs q)=none:=by
 rw[Bin.gN]
 unfold Bin.bnd
 rw[h]
 rfl
theorem OwnK.fr{β:Type}{cells:β->List Value}{e:TypeId}{k lo:Nat}{w0 w:World}{v:Value}{bl:List β}(h:OwnK lo w0 w e k v (bl.map cells))(hk:0<k):∃A c,v=.slice A bl.length c/\bl.length<=c/\c<=maxLen/\∀w2,Agr (Win lo w) w w2->RowsAt w2 w.heap.size A k (bl.map cells):=by
 obtain⟨A,c,e1,h1,h2,hg⟩:=h.formB hk
 rw[zd]at e1 h1
 refine⟨A,c,e1,h1,h2,λw2 ha hne=>?_⟩
 obtain⟨g,-,hA,hge,hgl,hcell⟩:=hg hne
 exact⟨g,0,hA,hgl,λi r hi j hj=>by rw[qz,ha g _ ⟨hge,hgl⟩];exact hcell i r hi j hj⟩
def CpV(lo:Nat)(w:World)(v:Value):Nat->Prop:=λb=>lo<=b/\b<w.heap.size/\v.ownBlock≠some b
def GlX{α β:Type}(R:Nat)(w0 w:World)(A:Option Addr)(c:Nat)(bs:List UInt8)(e:TypeId)(k:Nat)(cells:β->List Value)(key:β->α)(Fr:(Nat->Prop)->World->β->Prop)(g:Bin.Rd α)(n:Nat)(res:Option (List α×Nat))(v i:Value)(w1:World):Prop:=
 ∃(j:Nat) (bl:List β) (st':Option Nat) (p':Nat) (er':Value),i=.int .i64 (j:Int)/\bl.length=j/\j<=n/\Rst R w0 w1 A c bs st' p' er'/\Kx (Only R) w w1/\OwnK w.heap.size w1 w1 e k v (bl.map cells)/\(∀b∈bl,Fr (CpV w.heap.size w1 v) w1 b)/\(st'.bind λq=>preL (bl.map key) (Bin.gN g (n-j) bs q))=res/\(st'=none->v=.slice none 0 0)
section
variable{α β:Type}{R:Nat}{w0 w w1:World}{A:Option Addr}{c:Nat}{bs:List UInt8}{e:TypeId}{k:Nat}{cells:β->List Value}{key:β->α}{Fr:(Nat->Prop)->World->β->Prop}{g:Bin.Rd α}{n:Nat}{res:Option (List α×Nat)}
theorem GlX.start{r:Option (Int×Nat)}{m:Int}{p:Nat}{er:Value}(hm0:0<=m)(h:Rst R w0 w1 A c bs (r.map (·.2)) p er)(hk:Kx (Only R) w w1)(hv:∀x q,r=some (x,q)->(.int .i64 m:Value)=.int .i64 x):GlX R w0 w A c bs e k cells key Fr g m.toNat (r.bind λx=>Bin.gN g x.1.toNat bs x.2) (.slice none 0 0) (.int .i64 0) w1:=by
 refine⟨0,[],_,p,er,rfl,rfl,qw _,h,hk,OwnK.nil_ _ _ _ _ (zx _ _) hk.size,by simp,?_,λ_=>rfl⟩
 cases r with
 |none=>rfl
 |some y=>
  obtain⟨y1,y2⟩:=y
  have:=i64_inj (hv _ _ rfl)
  subst this
  simp only[Option.map_some,Option.bind_some,je,preL_nil,Nat.sub_zero]
theorem glx_none{st:Option Nat}{acc:List α}{j:Nat}(hj:j<n)(h:(st.bind λq=>g bs q)=none):(st.bind λq=>preL acc (Bin.gN g (n-j) bs q))=none:=by
 cases st with
 |none=>rfl
 |some q=>
  simp only[Option.bind_some]at h⊢
  obtain⟨m,hm⟩:∃m,n-j=m+1:=⟨n-j-1,by omega⟩
  rw[hm]
  exact gN_none h
theorem glx_some{st:Option Nat}{acc:List α}{j:Nat}{x:α}{q':Nat}(hj:j<n)(h:(st.bind λq=>g bs q)=some (x,q')):(st.bind λq=>preL acc (Bin.gN g (n-j) bs q))=preL (acc++[x]) (Bin.gN g (n-(j+1)) bs q'):=by
 cases st with
 |none=>cases h
 |some q=>
  simp only[Option.bind_some]at h⊢
  obtain⟨m,hm⟩:∃m,n-j=m+1:=⟨n-j-1,by omega⟩
  have hm2:n-(j+1)=m:=by omega
  rw[hm,hm2]
  exact gN_some h
theorem GlX.push{bl:List β}{b:β}{x:α}{w2 w2' w3:World}{v v3 i:Value}{j q' p2:Nat}{er2:Value}(hmv:Moves Fr)(hR:R<w.heap.size)(hb:bl.length=j)(hj:j<n)(hk:Kx (Only R) w w1)(how:OwnK w.heap.size w1 w1 e k v (bl.map cells))(hn:∀b∈bl,Fr (CpV w.heap.size w1 v) w1 b)
  (hres:preL (bl.map key++[x]) (Bin.gN g (n-(j+1)) bs q')=res) (hk2:Kx (Only R) w1 w2) (hfb:Fr (Win w1.heap.size w2) w2 b) (hkey:key b=x) (h2:Rst R w0 w2 A c bs (some q') p2 er2) (hbl:Below w2.heap.size w2 w2')
  (ho3:OwnK w.heap.size w2 w3 e k v3 (bl.map cells++[cells b])) (hk3:∀m,m<w2'.heap.size->v.ownBlock≠some m->w3.heap[m]? =w2'.heap[m]?/\v3.ownBlock≠some m) (hs3:w2'.heap.size<=w3.heap.size) (hi:i=.int .i64 ((j+1:Nat):Int)):
  GlX R w0 w A c bs e k cells key Fr g n res v3 i w3:=by
 have hsz:=hk.size
 have hsz2:=hk2.size
 have hsz3:w2.heap.size<=w3.heap.size:=zy hbl.size hs3
 have hb3:∀m,m<w2.heap.size->v.ownBlock≠some m->w3.heap[m]? =w2.heap[m]?/\v3.ownBlock≠some m:=λm hm hv=>by
  obtain⟨e1,e2⟩:=hk3 m (zj hm hbl.size) hv
  exact⟨e1.trans (hbl.block m hm),e2⟩
 have hwn:∀g,v.ownBlock=some g->w.heap.size<=g/\g<w1.heap.size:=λg hg=>how.own_lt hg
 have hkx:Kx (λb=>v.ownBlock=some b) w2 w3:=⟨ho3.below.os,ho3.below.tape,ho3.below.output,hsz3,λb hb hm=>(hb3 b hb hm).1⟩
 have hr3:Rst R w0 w3 A c bs (some q') p2 er2:=h2.kx hkx (λe=>by have:=(hwn R e).1;omega) (λb hb=>by have:=(hwn b hb).1;have:=h2.hR;omega)
 refine⟨j+1,bl++[b],some q',p2,er2,hi,by simp[hb],by omega,hr3,(hk.trans hk2).trans' hkx (λb hb=>.inr (hwn b hb).1),by rw[qd];exact ho3.self,λy hy=>?_,by rw[qd,List.map_singleton,hkey];exact hres,λh=>by cases h⟩
 rcases List.mem_append.1 hy with hy|hy
 ·
  refine hmv _ _ _ _ _ (hn y hy) (agr_of_heap λb hb=>?_) (λb hb=>⟨hb.1,by have:=hb.2.1;omega,(hb3 b (by have:=hb.2.1;omega) hb.2.2).2⟩) (by omega)
  rw[(hb3 b (by have:=hb.2.1;omega) hb.2.2).1,hk2.block b hb.2.1 (by intro e;have e:b=R:=e;have:=hb.1;omega)]
 ·
  simp at hy
  subst hy
  have hown:∀b,w1.heap.size<=b->v.ownBlock≠some b:=λb hb e=>by have:=(hwn b e).2;omega
  refine hmv _ _ _ _ _ hfb (agr_of_heap λb hb=>?_) (λb hb=>⟨by have:=hb.1;omega,by have:=hb.2;omega,(hb3 b hb.2 (hown b hb.1)).2⟩) hsz3
  rw[(hb3 b hb.2 (hown b hb.1)).1]
theorem GlX.done{bl:List β}{j:Nat}{st':Option Nat}{p':Nat}{er' v:Value}(hmv:Moves Fr)(hk0:0<k)(hb:bl.length=j)(hj:j=n)(hr:Rst R w0 w1 A c bs st' p' er')(hk:Kx (Only R) w w1)(how:OwnK w.heap.size w1 w1 e k v (bl.map cells))(hn:∀b∈bl,Fr (CpV w.heap.size w1 v) w1 b)
  (hres:(st'.bind λq=>preL (bl.map key) (Bin.gN g (n-j) bs q))=res) (hs:st'=none->v=.slice none 0 0):RdL k cells key Fr R w0 w A c bs res (.returned v) w1:=by
 have hz:n-j=0:=by omega
 rw[hz]at hres
 cases st' with
 |none=>
  subst hres
  exact⟨v,p',er',rfl,hr,hk,hs rfl⟩
 |some q=>
  have hres:some (bl.map key,q)=res:=by rw[<-hres];simp[Bin.gN,preL,Bin.ret]
  subst hres
  refine⟨v,p',er',rfl,hr,hk,?_⟩
  obtain⟨A1,c1,e1,h1,h2,h3⟩:=how.fr hk0
  exact⟨A1,bl,c1,e1,h1,h2,rfl,h3,λb hb=>hmv _ _ _ _ _ (hn b hb) (λ_ _ _=>rfl) (λm hm=>⟨hm.1,hm.2.1⟩) (zq _)⟩
end
end Go.Proofs.YteoijlfipmaoeaaGreatDoor
