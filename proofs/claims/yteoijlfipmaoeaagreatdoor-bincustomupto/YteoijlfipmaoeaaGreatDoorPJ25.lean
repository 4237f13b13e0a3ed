import Derived.Test.YteoijlfipmaoeaaGreatDoorPJ24
set_option linter.unusedVariables false
set_option linter.unusedSimpArgs false
set_option maxRecDepth 100000
set_option maxHeartbeats 16000000
namespace Go.Proofs.YteoijlfipmaoeaaGreatDoor
open Lib (hid)
open Go.RowKit Trx
open Go.Proofs.Tryz
section
variable{R:Nat}{w0 w:World}{A:Option Addr}{c:Nat}{bs:List UInt8}{st:Option Nat}{p:Nat}{er:Value}
theorem gcount_max(h:Rst R w0 w A c bs st p er):(st.bind λq=>Bin.gCount 4294967295 bs q)=st.bind λq=>Bin.gNum bs q:=by
 cases hst:st with
 |none=>rfl
 |some q=>
  rw[Option.bind_some,Option.bind_some]
  unfold Bin.gCount Bin.bnd
  cases hn:Bin.gNum bs q with
  |none=>rfl
  |some y=>
   obtain⟨y,q'⟩:=y
   have h1:=(Bin.num_got bs q y q' (h.at_ hst) hn).1
   simp only[Bin.pNum]at h1
   have h2:=(num32_iff y).1 h1
   dsimp only
   rw[if_pos (by omega)]
   rfl
theorem glist_Rn_any{X M:Nat}(h:Rst R w0 w A c bs st p er)(hX:w.cell? ⟨X,0,none⟩=some (pR R))(hXR:X≠R)(hM:Rm M w 64)(hMR:M≠R)(hXM:X≠M)(hge:w0.heap.size<=M):
  Calls prog 238 #[pR R,.int .i64 4294967295,.func (.func 239) #[] #[.pointer (some ⟨X,0,none⟩),.pointer (some ⟨M,0,none⟩)]] w (RdRs R M w0 w A c bs ((st.bind λq=>Bin.gNum bs q).bind λx=>Bin.gRuns x.1.toNat 64 bs x.2)):=by
 have hk:∀(a:Array Value) (w:World),Sem.run prog (callFunc 239 a) w=.ok (.enter 239 a) w:=λ_ _=>rfl
 have HC:=hid (rcount_any 4294967295 (by omega) (by omega) h)
 have hRw:=h.lt
 have hMw:=hM.lt
 rw[gcount_max h]at HC
 obtain⟨r,hr⟩:∃r,(st.bind λq=>Bin.gNum bs q)=r:=⟨_,rfl⟩
 rw[hr]at HC⊢
 obtain⟨res,hres⟩:∃res,(r.bind λx=>Bin.gRuns x.1.toNat 64 bs x.2)=res:=⟨_,rfl⟩
 rw[hres]
 refine postL λP hP=>?_
 have HP:=hid hP
 have HR:=hid hres
 have HM:=hid hM
 have HH:=hid (λ(w':World) (st':Option Nat) (p':Nat) (er':Value) (room:Nat) (h':Rst R w0 w' A c bs st' p' er') (hk':Kx (Two R M) w w') (hm':Rm M w' room) (hr':room<=64)=>c_locals1 h' (hk'.cell (b:=X) (by rintro(e|e);exact hXR e;exact hXM e) hX) hXR hm' hMR hXM hge hr')
 have HMR:=hid hMR
 clear hr hP hres h hM hX hXR hXM hMR hge
 unfold RdQ at HC
 go_enter func238,ntmps238
 go_wp2_with(first
  |(go_at_call 132;(with_reducible refine HC.out.mono ?_);rintro e w1 ⟨v1,p1,er1,rfl,h1,hk1,⟨m,rfl,hm0,hm1⟩,hv1⟩;have HST:=hid (GlR.start (M:=M) h1 hk1.two (HM.out.kx hk1 (show¬M=R from HMR.out)) hv1);clear h1 hk1 hv1))
 go_loopw [7,12] (λv i wr=>GlR R M w0 w A c bs m.toNat res v i wr) (λ_ i _=>m.toNat-(intOf i).toNat)
 case atStart=>rw[HR.out]at HST;exact HST.out
 case round=>
  clear HST
  obtain⟨j,bl,st',p',er',room,rfl,hbl,hjm,hr,hkx,how,hrm,hro,hre,hs⟩:=hrel
  have HJ:=hid hr
  have HKj:=hid hkx
  have HOw:=hid how
  have HRe:=hid hre
  have HS:=hid hs
  have HBl:=hid hbl
  have HRm:=hid hrm
  clear hr hkx how hre hs hbl hrm
  by_cases hlt:j<m.toNat
  ·
   have hlt':(j:Int)<m:=by omega
   have HC:=hid (HH.out _ _ _ _ _ HJ.out HKj.out HRm.out hro)
   obtain⟨r2,hr2⟩:∃r2,(st'.bind λq=>Bin.gRun room bs q)=r2:=⟨_,rfl⟩
   rw[hr2]at HC
   unfold RdRn at HC
   cases r2 with
   |none=>
    have HX:=hid ((glr_none hlt hr2).symm.trans HRe.out)
    clear hr2
    go_wp2_with fail
    refine HC.out.mono ?_
    rintro e w2 ⟨n2,t2,p2,er2,rfl,h2,hk2,hm2,-⟩
    obtain⟨hx0,-⟩|⟨-,sb,so,rfl⟩:=h2.lk
    ·exact absurd hx0 (by simp)
    have d2:=h2.c2
    have hl2:=h2.lt
    have d3:=h2.fr 2
    have HR2:=hid h2
    have HK2:=hid (HKj.out.trans hk2)
    clear h2 hk2
    go_wp2_with fail
    rw[<-HP.out,<-HX.out]
    exact⟨_,p2,_,rfl,HR2.out.alloc _,HK2.out.alloc _,rfl⟩
   |some xq=>
    obtain⟨x,q'⟩:=xq
    have HX:=hid ((glr_some hlt hr2).symm.trans HRe.out)
    clear hr2
    go_wp2_with fail
    refine HC.out.mono ?_
    rintro e w2 ⟨n2,t2,p2,er2,rfl,h2,hk2,hm2,hv2⟩
    obtain⟨rfl,rfl,hx1⟩:=hv2 x q' rfl
    obtain⟨-,rfl⟩|⟨hx0,-⟩:=h2.lk
    case inr=>cases hx0
    have d2:=h2.c2
    have hl2:=h2.lt
    have d3:=h2.fr 2
    have HR2:=hid h2
    have HK2:=hid hk2
    have HO2:=hid (HOw.out.kxm hk2 (by rintro b (rfl|rfl);exact hRw;exact hMw))
    have HM2:=hid hm2
    have hone:∀u∈(#[.int .i64 (x.1:Int),.int .i64 x.2]:Array Value).toList,u.oneCell'=true:=by intro u hu;simp at hu;rcases hu with rfl|rfl<;>rfl
    have HOne:=hid hone
    have hbl2:=HBl.out
    clear h2 hk2 hm2 hv2 hone
    go_wp2_with(first
     |(at_builtin;refine wpList_pushK rfl (.tmp 21) (.tmp 23) _ rfl 16 underlying225 elem_rn (by decide) _ _ _ rfl (HO2.out.alloc _) rfl (by simp) rfl HOne.out (by rw[zd];omega) (by rw[zd];unfold maxLen;omega) ?_;intro v3 w3 ho3 hk3 hs3;have HO3:=hid ho3;have HK3:=hid hk3;have HS3:=hid hs3;clear ho3 hk3 hs3))
    go_roundw
    case rel=>exact GlR.push (x:=x) hRw hMw HBl.out hlt HKj.out HOw.out HX.out HK2.out hx1 hro HM2.out HR2.out ((zx _ _).alloc (zq _) _) HO3.out HK3.out HS3.out (by go_num)
    case measure=>simp[intOf];omega
  ·
   have hlt':¬(j:Int)<m:=by omega
   have HD:=hid (GlR.done HBl.out (by omega) HJ.out HKj.out HOw.out HRe.out HS.out)
   go_wp2_with fail
   rw[<-HP.out]
   exact HD.out
end
theorem Bin.expd_take(xs:List (Nat×Int))(j:Nat)(h:j<xs.length):Bin.expd (xs.take (j+1))=Bin.expd (xs.take j)++List.replicate (xs[j]).1 (xs[j]).2:=by
 unfold Bin.expd
 rw[qs,zb h]
 simp only[Option.toList_some,List.flatMap_append,js,List.flatMap_nil,jy]
theorem ones_expd(n:Nat)(t:Int)(l:List Int):(l.map λx:Int=>([.int .i64 x]:List Value))++Go.Proofs.YteoijlfipmaoeaaGreatDoor.ones (i64s (List.replicate n t))=(l++List.replicate n t).map λx:Int=>([.int .i64 x]:List Value):=by
 simp[Go.Proofs.YteoijlfipmaoeaaGreatDoor.ones,i64s]
section
variable{R:Nat}{w0 w:World}{A:Option Addr}{c:Nat}{bs:List UInt8}{st:Option Nat}{p:Nat}{er:Value}
theorem loc_eq{r:Option (List (Nat×Int)×Nat)}(h:((st.bind λq=>Bin.gNum bs q).bind λx=>Bin.gRuns x.1.toNat 64 bs x.2)=r):(st.bind λq=>Bin.gLoc bs q)=r.map λx=>(Bin.expd x.1,x.2):=by
 unfold Bin.gLoc
 rw[res_of (r:=st.bind λq=>Bin.gNum bs q) rfl]
 subst h
 cases(st.bind λq=>Bin.gNum bs q)with
 |none=>rfl
 |some y=>
  dsimp only[Option.bind_some]
  unfold Bin.bnd
  cases Bin.gRuns y.1.toNat 64 bs y.2<;>rfl
theorem runs_small{xs:List (Nat×Int)}{q:Nat}(h:Rst R w0 w A c bs st p er)(e:((st.bind λq=>Bin.gNum bs q).bind λx=>Bin.gRuns x.1.toNat 64 bs x.2)=some (xs,q)):(Bin.expd xs).length<=64/\(∀x∈xs,x.1<=64)/\∀z∈Bin.expd xs,inI z:=by
 cases hst:st with
 |none=>rw[hst]at e;cases e
 |some q0=>
  rw[hst,Option.bind_some]at e
  cases hn:Bin.gNum bs q0 with
  |none=>rw[hn]at e;cases e
  |some y=>
   obtain⟨y,q1⟩:=y
   rw[hn,Option.bind_some]at e
   obtain⟨-,-,-,h4⟩:=Bin.num_got bs q0 y q1 (h.at_ hst) hn
   obtain⟨-,h2,h3,-,-⟩:=Bin.gRuns_got _ _ bs q1 xs q h4 e
   rw[List.all_eq_true]at h2
   refine⟨h3,λx hx=>?_,λz hz=>?_⟩
   ·
    rw[Bin.expd_len]at h3
    exact zy (Bin.mem_sum (List.mem_map.2 ⟨x,hx,rfl⟩)) h3
   ·
    unfold Bin.expd at hz
    obtain⟨x,hx,hz⟩:=List.mem_flatMap.1 hz
    have:=(List.mem_replicate.1 hz).2
    subst this
    rcases Bin.type_of (h2 x hx)with⟨e,-⟩|⟨e,-⟩<;>rw[e]<;>unfold inI<;>omega
theorem rows_run{w:World}{B:Nat}{A1:Option Addr}{xs:List (Nat×Int)}(h:RowsAt w B A1 2 (xs.map rnC)){j:Nat}(hj:j<xs.length):∃b o,A1=some ⟨b,o,none⟩/\b<B/\w.cell? ⟨b,o+j * 2,none⟩=some (.int .i64 ((xs[j]).1:Int))/\w.cell? ⟨b,o+j * 2+1,none⟩=some (.int .i64 (xs[j]).2):=by
 obtain⟨b,o,hA,hb,hc⟩:=h (by intro e;have:=congrArg List.length e;simp at this;subst this;simp at hj)
 have hg:(xs.map rnC)[j]? =some (rnC xs[j]):=by rw[zr,zb hj];rfl
 exact⟨b,o,hA,hb,hc j _ hg 0 (by omega),hc j _ hg 1 (by omega)⟩
theorem rlocals_any(h:Rst R w0 w A c bs st p er):
  Calls prog 217 #[pR R] w (RdI R w0 w A c bs (st.bind λq=>Bin.gLoc bs q)):=by
 have hlt:=h.lt
 have hge:=h.bel.size
 obtain⟨W,hW⟩:∃W:World,W=(w.alloc (.cells #[pR R] 88)).alloc (.cells #[.int .i64 64] 3):=⟨_,rfl⟩
 have hsz:W.heap.size=w.heap.size+2:=by rw[hW];simp
 have HRW:Hid (Rst R w0 W A c bs st p er):=hid (by rw[hW];exact(h.alloc _).alloc _)
 have HKW:Hid (Kx (Only R) w W):=hid (by rw[hW];exact(Kx.refl_.alloc _).alloc _)
 have hX:W.cell? ⟨w.heap.size,0,none⟩=some (pR R):=by rw[hW,jq _ _ _ (by simp),zv _ _ _ _ rfl];rfl
 have hM:Rm (w.heap.size+1) W 64:=by
  rw[hW]
  exact⟨by rw[zv _ _ _ _ (by simp)];rfl,zw _ _ _ _ (by simp)⟩
 obtain⟨r,hr⟩:∃r,((st.bind λq=>Bin.gNum bs q).bind λx=>Bin.gRuns x.1.toNat 64 bs x.2)=r:=⟨_,rfl⟩
 have HL:=hid (glist_Rn_any (X:=w.heap.size) (M:=w.heap.size+1) HRW.out hX (by omega) hM (by omega) (by omega) (by omega))
 rw[hr]at HL
 rw[loc_eq hr]
 refine postL λP hP=>?_
 have HP:=hid hP
 have hnone:∀(e:Ending) (w':World),RdL 1 (λx:Int=>([.int .i64 x]:List Value)) (λx=>x) FrT R w0 w A c bs (r.map λx=>(Bin.expd x.1,x.2)) e w'->P e w':=λe w' hx=>by
  rw[<-HP.out]
  refine hx.il λx q he=>?_
  obtain⟨z,hz,rfl⟩:=map_some (f:=Bin.expd) he
  obtain⟨h1,-,h3⟩:=runs_small h (by rw[hr];exact hz)
  exact⟨by omega,h3⟩
 have HN:=hid hnone
 have HSm:=hid (λxs q e=>runs_small h (xs:=xs) (q:=q) (by rw[hr];exact e))
 clear h hX hM hr hP hnone
 go_enter func217,ntmps217
 go_wp2_with fail
 rw[<-hW]
 have HWs:=hid hsz
 clear hW hsz
 refine HL.out.mono ?_
 unfold RdRs
 rintro e w1 ⟨v1,p1,er1,rfl,h1,hk1,hv1⟩
 have H1:=hid h1
 have HK1:Hid (Kx (Only R) w w1):=hid (HKW.out.trans' hk1 (by rintro b (e|e);exact .inl e;exact .inr (by omega)))
 clear h1 HL
 cases r with
 |none=>
  dsimp only at hv1
  subst hv1
  clear hk1
  go_wp2_with fail
  refine wp_loop_rounds 1 ?_
  rw[rounds_succ]
  go_wp2_with fail
  exact HN.out _ _ ⟨_,p1,er1,rfl,H1.out,HK1.out,rfl⟩
 |some xq=>
  obtain⟨xs,q1⟩:=xq
  obtain⟨A1,c1,rfl,ho1⟩:=hv1
  have hrows:RowsAt w1 w1.heap.size A1 2 (xs.map rnC):=by
   obtain⟨A2,c2,e2,-,-,hrw⟩:=ho1.fr (cells:=rnC) (by decide)
   injection e2 with e2
   subst e2
   exact hrw w1 (λ_ _ _=>rfl)
  have HRo:=hid hrows
  have hxl:xs.length<=9223372036854775807:=by
   obtain⟨A2,c2,e2,g1,g2,-⟩:=ho1.fr (cells:=rnC) (by decide)
   unfold maxLen at g2
   have g3:xs.length<=c2:=g1
   omega
  have hw1s:w.heap.size<=w1.heap.size:=HK1.out.size
  have hsm:=HSm.out xs q1 rfl
  clear hk1 ho1 hrows
  go_wp2_with fail
  go_loopw [5,13] (λl i wr=>∃j:Nat,i=.int .i64 (j:Int)/\j<=xs.length/\OwnK w1.heap.size w1 wr 3 1 l ((Bin.expd (xs.take j)).map λx:Int=>([.int .i64 x]:List Value))) (λ_ i _=>xs.length-(intOf i).toNat)
  case atStart=>exact⟨0,rfl,by omega,OwnK.nil_ _ _ _ _ (zx _ _) (zq _)⟩
  case round=>
   obtain⟨j,rfl,hj,ho⟩:=hrel
   by_cases hlt:j<xs.length
   ·
    have hlt':(j:Int)<xs.length:=by omega
    obtain⟨x,hx⟩:∃x,xs[j]=x:=⟨_,rfl⟩
    have HX:=hid hx
    obtain⟨b,o,rfl,hb,q0,q1'⟩:=rows_run HRo.out hlt
    have hx64:=hsm.2.1 x (by rw[<-hx];exact jf hlt)
    have hle:(Bin.expd (xs.take (j+1))).length<=64:=by
     have h3:=hsm.1
     rw[Bin.expd_len]at h3⊢
     refine zy ?_ h3
     have:=jw (j+1) (xs.map (·.1))
     rw[<-this,List.sum_append,xu]
     omega
    rw[Bin.expd_take xs j hlt,hx,zz,jn]at hle
    rw[hx]at q0 q1'
    have z0:=(ho.below.cell (p:=⟨b,o+j * 2,none⟩) hb).trans q0
    have z1:=(ho.below.cell (p:=⟨b,o+j * 2+1,none⟩) hb).trans q1'
    have hbr:b<wr.heap.size:=zj hb ho.below.size
    have HO:=hid ho
    have HX64:=hid hx64
    have HLe:=hid hle
    clear ho q0 q1' hx hx64 hle
    go_wp2_with(first
     |(go_at_call 240;refine(Repeat_any x.2 x.1 HX64.out _ _ (by simp) (by rw[zv _ _ _ _ (by simp)];rfl)).mono ?_;rintro e w3 ⟨v3,rfl,ho3⟩;obtain⟨A3,c3,rfl,hl3,hm3,hs3⟩:=ho3.form;have HO3:=hid (HO.out.later (((((zx wr.heap.size wr).alloc (zq _) _).alloc (by simp) _)).trans (ho3.below.mono (by simp;omega))));have HS3:=hid hs3;have HLn3:Hid ((i64s (List.replicate x.1 x.2)).length=x.1):=hid (by simp);clear ho3 hs3 hl3 hm3)
     |(at_builtin;refine wpList_catK rfl (.tmp 17) (.tmp 23) _ rfl 8 underlying52 elem_intg (by decide) rfl HO3.out rfl (Sl.ones HS3.out) (Go.Proofs.YteoijlfipmaoeaaGreatDoor.ones_len _) (by simp) (by intro r hr u hu;simp[Go.Proofs.YteoijlfipmaoeaaGreatDoor.ones,i64s]at hr;obtain⟨-,rfl⟩:=hr;simp at hu;subst hu;rfl) (by have:=HLe.out;simp;omega) (by have:=HLe.out;unfold maxLen;simp;omega) ?_;intro v4 w4 ho4 hk4 hs4;have HO4:=hid ho4;clear ho4 hk4 hs4))
    go_roundw
    case rel=>exact⟨j+1,by go_num,by omega,by rw[Bin.expd_take xs j hlt,HX.out,<-ones_expd];exact HO4.out⟩
    case measure=>simp[intOf];omega
   ·
    have hlt':¬(j:Int)<xs.length:=by omega
    have hj':j=xs.length:=by omega
    rw[hj',xo]at ho
    obtain⟨A5,c5,e5,f1,f2,f3⟩:=(ho.self).fr (cells:=λx:Int=>([.int .i64 x]:List Value)) (by decide)
    have HF:=hid (⟨A5,Bin.expd xs,c5,rfl,f1,f2,List.map_id _,λw2 ha=>f3 w2 λb o hb=>ha b o ⟨by have:=hb.1;omega,hb.2⟩,λ_ _=>trivial⟩:FrL 1 (λx:Int=>([.int .i64 x]:List Value)) (λx=>x) FrT w.heap.size wr (.slice A5 (Bin.expd xs).length c5) (Bin.expd xs))
    have HB:=hid ho.below
    subst e5
    clear ho f3
    go_wp2_with fail
    exact HN.out _ _ ⟨_,p1,er1,rfl,H1.out.later HB.out,HK1.out.trans (.of_below HB.out),HF.out⟩
end
theorem Kx.agrs{M S:Nat->Prop}{w w':World}(h:Kx M w w')(hS:∀b,S b->b<w.heap.size/\¬M b):Agr S w w':=λb _ hb=>zm (h.block b (hS b hb).1 (hS b hb).2)
theorem FL.ok.more(w:World)(B B':Nat)(l:FL)(h:l.ok w B)(hB:B<=B'):l.ok w B':=h.keep hB (λ_ _ _=>rfl)
theorem FrK.kxm{β:Type}{ok:World->Nat->β->Prop}(hm:∀(w:World) (B B':Nat) (b:β),ok w B b->B<=B'->ok w B' b){S S' M:Nat->Prop}{w w':World}{b:β}(h:FrK ok S w b)(hk:Kx M w w')(hS:∀m,S m->m<w.heap.size/\¬M m)(hS':∀m,S m->S' m):FrK ok S' w' b:=
 FrK.moves hm S S' w w' b h (hk.agrs hS) hS' hk.size
theorem FrF.fl{lo:Nat}{w:World}{v:Value}{f:Fo}(h:FrF lo w v f)(hs:Bin.sX f):∃l:FL,v=l.v/\l.f=f/\FrK FL.ok (Win lo w) w l:=by
 obtain⟨A,c,e,h1,h2,h3⟩:=h
 have hc:cnt f<=100000:=zy hs.cnt (by decide)
 refine⟨⟨f,A,c⟩,e,rfl,λw2 ha=>⟨h1,h2,?_,light_lsh f hs.lsh hc,h3 w2 ha⟩⟩
 have:=len_cnt9 f
 show len f * 120<=RB
 unfold RB
 omega
theorem RdI.one{R:Nat}{w0 w:World}{A:Option Addr}{c:Nat}{bs:List UInt8}{res:Option (List Int×Nat)}{e:Ending}{w':World}(h:RdI R w0 w A c bs res e w'):∃l p' er',e=.returned (IL.v l)/\Rst R w0 w' A c bs (res.map (·.2)) p' er'/\Kx (Only R) w w'/\∀x q,res=some (x,q)->l.zs=x/\FrK IL.ok (Win w.heap.size w') w' l:=by
 obtain⟨v,p',er',h1,h2,h3,⟨l,hl⟩,h5⟩:=h
 cases res with
 |none=>exact⟨l,p',er',by rw[h1,hl],h2,h3,λ_ _ e=>by cases e⟩
 |some y=>
  obtain⟨l2,g1,g2,g3⟩:=h5 y.1 y.2 rfl
  exact⟨l2,p',er',by rw[h1,g1],h2,h3,λx q e=>by injection e with e;rw[<-(show y.1=x from congrArg Prod.fst e)];exact⟨g2,g3⟩⟩
def FnQ(R L lo:Nat)(w:World)(res:Option ((List Int×Fo)×Nat)):Option Nat->World->Prop:=λst' w2=>st'=res.map (·.2)/\Kx (Two R L) w w2/\∃x:Fn,x.ty=0/\Bk R w2 L [.int .i64 0,.slice x.lo.A x.lo.zs.length x.lo.c,.slice x.bo.A (len x.bo.f) x.bo.c]/\∀y q,res=some (y,q)->(x.lo.zs,x.bo.f)=y/\FrK Fn.ok (Win lo w2) w2 x
section
variable{R:Nat}{w0 w:World}{A:Option Addr}{c:Nat}{bs:List UInt8}{st:Option Nat}{p:Nat}{er:Value}
theorem c_funcs11{X L lo:Nat}(hN:Nam w0)(h:Rst R w0 w A c bs st p er)(hX:w.cell? ⟨X,0,none⟩=some (pR R))(hXR:X≠R)(hXL:X≠L)(hL:Bk R w L [.int .i64 0,.slice none 0 0,.slice none 0 0])(hge:w0.heap.size<=L)(hlo:L<lo)(hRo:R<lo)(hlw:lo<=w.heap.size):
  Calls prog 216 #[.pointer (some ⟨X,0,none⟩),.pointer (some ⟨L,0,none⟩)] w λe w2=>e=.returned (.tuple #[])/\∃st' p' er',Rst R w0 w2 A c bs st' p' er'/\FnQ R L lo w (st.bind λq=>Bin.gCode bs q) st' w2:=by
 obtain⟨r1,hr1⟩:∃r,(st.bind λq=>Bin.gLoc bs q)=r:=⟨_,rfl⟩
 obtain⟨r2,hr2⟩:∃r,((r1.map (·.2)).bind λq=>Bin.gExpr bs q)=r:=⟨_,rfl⟩
 have HE:=hid (seq2_eq (λ(a:List Int) (f:Fo)=>(a,f)) hr1 hr2)
 have HG:=hid (λx q (e:(st.bind λq=>Bin.gCode bs q)=some (x,q))=>h.got Bin.code_got e)
 have HR1:=hid hr1
 have HR2:=hid hr2
 refine postL λP hP=>?_
 have HP:=hid hP
 have HA:=hid h
 have HB:=hid hL
 have HXc:=hid hX
 have HLo:=hid (⟨hge,hlo,hRo,hlw⟩:w0.heap.size<=L/\L<lo/\R<lo/\lo<=w.heap.size)
 have hLR:=hL.ne
 clear hP hr1 hr2 h hL hge hlo hRo hlw
 go_enter func216,ntmps216
 go_wp2_with fail
 refine(rlocals_any HA.out).mono ?_
 intro e w1 hx
 obtain⟨l,p1,er1,rfl,h1,hk1,hv1⟩:=hx.one
 clear hx
 rw[HR1.out]at h1 hv1
 have H1:=hid h1
 have HK1:=hid hk1
 have HB1:=hid (HB.out.kx hk1)
 have HX1:=hid (hk1.cell (show¬X=R from hXR) HXc.out)
 have HV1:=hid hv1
 have hx1:=HX1.out
 have y1:=HB1.out.cell 1 _ rfl
 have g1:=HB1.out.fr 1
 clear h1 hk1 hv1 hX
 go_wp2_with fail
 obtain⟨W,hW⟩:∃W:World,W=w1.setCell ⟨L,1,none⟩ (.slice l.A l.zs.length l.c):=⟨_,rfl⟩
 have HW:Hid (Rst R w0 W A c bs _ _ _):=hid (by rw[hW];exact H1.out.setOther HLo.out.1 hLR 1 _)
 have HKW:Hid (Kx (Two R L) w W):=hid (by rw[hW];exact HK1.out.two.setCell (p:=⟨L,1,none⟩) (.inl (.inr rfl)) _)
 have HKw:Hid (Kx (Only L) w1 W):=hid (by rw[hW];exact(Kx.refl_ (M:=Only L)).setCell (p:=⟨L,1,none⟩) (.inl rfl) _)
 have HBW:Hid (Bk R W L [.int .i64 0,.slice l.A l.zs.length l.c,.slice none 0 0]):=hid (by rw[hW];exact HB1.out.set 1 _ (by simp))
 rw[<-hW]
 clear hW
 refine(rexpr_any hN HW.out).mono ?_
 unfold RdX
 rintro e w2 ⟨v2,p2,er2,rfl,h2,hk2,hv2⟩
 rw[HR2.out]at h2 hv2
 have hfl:∃b:FL,v2=b.v/\∀f q,r2=some (f,q)->Bin.sX f->b.f=f/\FrK FL.ok (Win W.heap.size w2) w2 b:=by
  cases r2 with
  |none=>exact⟨⟨.nil,none,0⟩,hv2,λ_ _ e=>by cases e⟩
  |some y=>
   obtain⟨A2,c2,e2,f1,f2,f3⟩:=hv2
   refine⟨⟨y.1,A2,c2⟩,e2,λf q e hs=>?_⟩
   injection e with e
   subst e
   obtain⟨b,hb1,hb2,hb3⟩:=FrF.fl (⟨A2,c2,rfl,f1,f2,f3⟩:FrF W.heap.size w2 (.slice A2 (len f) c2) f) hs
   obtain⟨bf,bA,bc⟩:=b
   dsimp only at hb1 hb2
   subst hb2
   unfold FL.v at hb1
   injection hb1 with hb1 _ hb4
   subst hb1 hb4
   exact⟨rfl,hb3⟩
 obtain⟨b,rfl,hb⟩:=hfl
 have H2:=hid h2
 have HK2:=hid (HKW.out.trans hk2.two)
 have HKx:Hid (Kx (Two R L) w1 w2):=hid ((HKw.out.mono (M':=Two R L) λb hb=>.inr hb).trans hk2.two)
 have HB2:=hid (HBW.out.kx hk2)
 have HV2:=hid hb
 have HSz:=hid (show w.heap.size<=W.heap.size/\W.heap.size<=w2.heap.size from⟨HKW.out.size,hk2.size⟩)
 have y2:=HB2.out.cell 2 _ rfl
 have g2:=HB2.out.fr 2
 clear h2 hk2 hv2 hb
 go_wp2_with fail
 go_end0
 rw[<-HP.out]
 refine⟨rfl,_,p2,er2,H2.out.setOther HLo.out.1 hLR 2 _,HE.out.1,HK2.out.setCell (p:=⟨L,2,none⟩) (.inl (.inr rfl)) _,⟨0,l,b⟩,rfl,HB2.out.set 2 _ (by simp),λy q e=>?_⟩
 obtain⟨a,q1,f,e2,e3,rfl⟩:=HE.out.2 y q e
 obtain⟨-,hs1,hs2⟩:=HG.out _ _ e
 obtain⟨f2,f3⟩:=HV1.out _ _ e2
 obtain⟨g2,g3⟩:=HV2.out _ _ e3 hs2
 obtain⟨z1,z2,z3,z4⟩:=HLo.out
 obtain⟨z5,z6⟩:=HSz.out
 have k1:=f3.kxm (S':=Win lo (w2.setCell ⟨L,2,none⟩ (.slice b.A (len b.f) b.c))) IL.ok.more (HKx.out.setCell (p:=⟨L,2,none⟩) (.inl (.inr rfl)) (.slice b.A (len b.f) b.c)) (λm hm=>⟨hm.2,by have:=hm.1;rintro(e|e)<;>omega⟩) (λm hm=>⟨zy z4 hm.1,by have:=hm.2;have:=HKx.out.size;simp[World.setCell];omega⟩)
 have k2:=g3.kxm (S':=Win lo (w2.setCell ⟨L,2,none⟩ (.slice b.A (len b.f) b.c))) (M:=Only L) FL.ok.more ((Kx.refl_ (M:=Only L)).setCell (p:=⟨L,2,none⟩) (.inl rfl) (.slice b.A (len b.f) b.c)) (λm hm=>⟨hm.2,by have:=hm.1;intro e;have e:m=L:=e;omega⟩) (λm hm=>⟨by have:=hm.1;omega,by have:=hm.2;simp[World.setCell];omega⟩)
 refine⟨by rw[show l.zs=a from f2,show b.f=f from g2],λw' ha=>⟨inI0,k1 w' ha,k2 w' ha⟩⟩
end
def FrLo{α β:Type}(e:TypeId)(k:Nat)(cells:β->List Value)(key:β->α)(Fr:(Nat->Prop)->World->β->Prop)(lo:Nat)(w:World)(v:Value)(xs:List α):Prop:=∃(A:Option Addr) (bl:List β) (c:Nat),v=.slice A bl.length c/\bl.length<=c/\c<=maxLen/\bl.map key=xs/\OwnK lo w w e k v (bl.map cells)/\∀b∈bl,Fr (CpV lo w v) w b
def RdLo{α β:Type}(e:TypeId)(k:Nat)(cells:β->List Value)(key:β->α)(Fr:(Nat->Prop)->World->β->Prop)(R:Nat)(w0 w:World)(A:Option Addr)(c:Nat)(bs:List UInt8)(res:Option (List α×Nat)):Ending->World->Prop:=λen w'=>∃v p' er',en=.returned v/\Rst R w0 w' A c bs (res.map (·.2)) p' er'/\Kx (Only R) w w'/\match res with
 |none=>v=.slice none 0 0
 |some x=>FrLo e k cells key Fr w.heap.size w' v x.1
section
variable{α β:Type}{R:Nat}{w0 w w1:World}{A:Option Addr}{c:Nat}{bs:List UInt8}{e:TypeId}{k:Nat}{cells:β->List Value}{key:β->α}{Fr:(Nat->Prop)->World->β->Prop}{g:Bin.Rd α}{n:Nat}{res:Option (List α×Nat)}
theorem GlX.doneO{bl:List β}{j:Nat}{st':Option Nat}{p':Nat}{er' v:Value}(hk0:0<k)(hb:bl.length=j)(hj:j=n)(hr:Rst R w0 w1 A c bs st' p' er')(hk:Kx (Only R) w w1)(how:OwnK w.heap.size w1 w1 e k v (bl.map cells))(hn:∀b∈bl,Fr (CpV w.heap.size w1 v) w1 b)
  (hres:(st'.bind λq=>preL (bl.map key) (Bin.gN g (n-j) bs q))=res) (hs:st'=none->v=.slice none 0 0):RdLo e k cells key Fr R w0 w A c bs res (.returned v) w1:=by
 have hz:n-j=0:=by omega
 rw[hz]at hres
 cases st' with
 |none=>
  subst hres
  exact⟨v,p',er',rfl,hr,hk,hs rfl⟩
 |some q=>
  have hres:some (bl.map key,q)=res:=by rw[<-hres];simp[Bin.gN,preL,Bin.ret]
  subst hres
  refine⟨v,p',er',rfl,hr,hk,?_⟩
  obtain⟨A1,c1,e1,h1,h2,-⟩:=how.fr hk0
  exact⟨A1,bl,c1,e1,h1,h2,rfl,how,hn⟩
end
theorem glist_Fn_own{α:Type}(k:Nat)(hk:∀(a:Array Value) (w:World),Sem.run prog (callFunc k a) w=.ok (.enter k a) w)(caps:Array Value)(g:Bin.Rd α)(key:Fn->α)(Fr:(Nat->Prop)->World->Fn->Prop)(hmv:Moves Fr)(L:Int)(lim:Nat)(hL:L=lim)(hl1:lim<=4294967295)
  {R:Nat} {w0 w:World} {A:Option Addr} {c:Nat} {bs:List UInt8} {st:Option Nat} {p:Nat} {er:Value} (h:Rst R w0 w A c bs st p er)
  (H:∀w' st' p' er',Rst R w0 w' A c bs st' p' er'->Kx (Only R) w w'->Calls prog k caps w' (RdE (λx:Fn=>(.agg #[.int .i64 x.ty,.slice x.lo.A x.lo.zs.length x.lo.c,.slice x.bo.A (len x.bo.f) x.bo.c]:Value)) key Fr R w0 w' A c bs (st'.bind λq=>g bs q))):
  Calls prog 214 #[pR R,.int .i64 L,.func (.func k) #[] caps] w (RdLo 55 3 (λx:Fn=>([.int .i64 x.ty,.slice x.lo.A x.lo.zs.length x.lo.c,.slice x.bo.A (len x.bo.f) x.bo.c]:List Value)) key Fr R w0 w A c bs (st.bind λq=>Bin.gList lim g bs q)):=by
 have HC:=hid (rcount_any L (by omega) (by omega) h)
 have hRw:=h.lt
 obtain⟨r,hr⟩:∃r,(st.bind λq=>Bin.gCount (lim:Int) bs q)=r:=⟨_,rfl⟩
 rw[gList_of hr]
 rw[hL,hr]at HC
 obtain⟨res,hres⟩:∃res,(r.bind λx=>Bin.gN g x.1.toNat bs x.2)=res:=⟨_,rfl⟩
 rw[hres]
 refine postL λP hP=>?_
 have HP:=hid hP
 have HR:=hid hres
 have HH:=hid H
 have HM:=hid hmv
 have hm9:(L:Int)<=4294967295:=by omega
 clear hr hP hres H h hmv
 unfold RdQ at HC
 go_enter func214,ntmps214
 go_wp2_with(first
  |(go_at_call 132;(with_reducible refine HC.out.mono ?_);rintro e w1 ⟨v1,p1,er1,rfl,h1,hk1,⟨m,rfl,hm0,hm1⟩,hv1⟩;have HST:=hid (GlX.start (e:=55) (k:=3) (cells:=(λx:Fn=>([.int .i64 x.ty,.slice x.lo.A x.lo.zs.length x.lo.c,.slice x.bo.A (len x.bo.f) x.bo.c]:List Value))) (key:=key) (Fr:=Fr) (g:=g) hm0 h1 hk1 hv1);clear h1 hk1 hv1))
 go_loopw [7,12] (λv i wr=>GlX R w0 w A c bs 55 3 (λx:Fn=>([.int .i64 x.ty,.slice x.lo.A x.lo.zs.length x.lo.c,.slice x.bo.A (len x.bo.f) x.bo.c]:List Value)) key Fr g m.toNat res v i wr) (λ_ i _=>m.toNat-(intOf i).toNat)
 case atStart=>rw[HR.out]at HST;exact HST.out
 case round=>
  clear HST
  obtain⟨j,bl,st',p',er',rfl,hbl,hjm,hr,hkx,how,hnw,hre,hs⟩:=hrel
  have HJ:=hid hr
  have HKj:=hid hkx
  have HOw:=hid how
  have HNw:=hid hnw
  have HRe:=hid hre
  have HS:=hid hs
  have HBl:=hid hbl
  clear hr hkx how hnw hre hs hbl
  by_cases hlt:j<m.toNat
  ·
   have hlt':(j:Int)<m:=by omega
   have HC:=hid (HH.out _ _ _ _ HJ.out HKj.out)
   obtain⟨r2,hr2⟩:∃r2,(st'.bind λq=>g bs q)=r2:=⟨_,rfl⟩
   rw[hr2]at HC
   unfold RdE RdQ at HC
   cases r2 with
   |none=>
    have HX:=hid ((glx_none hlt hr2).symm.trans HRe.out)
    clear hr2
    go_wp2_with fail
    refine HC.out.mono ?_
    rintro e w2 ⟨v2,p2,er2,rfl,h2,hk2,⟨b,rfl⟩,-⟩
    obtain⟨hx0,-⟩|⟨-,sb,so,rfl⟩:=h2.lk
    ·exact absurd hx0 (by simp)
    have d2:=h2.c2
    have hl2:=h2.lt
    have d3:=h2.fr 2
    have HR2:=hid h2
    have HK2:=hid (HKj.out.trans hk2)
    clear h2 hk2
    go_wp2_with fail
    rw[<-HP.out,<-HX.out]
    exact⟨_,p2,_,rfl,HR2.out.alloc _,HK2.out.alloc _,rfl⟩
   |some xq=>
    obtain⟨x,q'⟩:=xq
    have HX:=hid ((glx_some hlt hr2).symm.trans HRe.out)
    clear hr2
    go_wp2_with fail
    refine HC.out.mono ?_
    rintro e w2 ⟨v2,p2,er2,rfl,h2,hk2,-,hv2⟩
    obtain⟨b,rfl,hkey,hfb⟩:=hv2 x q' rfl
    obtain⟨-,rfl⟩|⟨hx0,-⟩:=h2.lk
    case inr=>cases hx0
    have d2:=h2.c2
    have hl2:=h2.lt
    have d3:=h2.fr 2
    have HR2:=hid h2
    have HK2:=hid hk2
    have HO2:=hid (HOw.out.kx hk2 hRw)
    have HFb:=hid hfb
    have HKey:=hid hkey
    have hone:∀u∈(#[.int .i64 b.ty,.slice b.lo.A b.lo.zs.length b.lo.c,.slice b.bo.A (len b.bo.f) b.bo.c]:Array Value).toList,u.oneCell'=true:=by intro u hu;simp at hu;rcases hu with rfl|rfl|rfl<;>rfl
    have HOne:=hid hone
    have hbl2:=HBl.out
    clear h2 hk2 hfb hkey hv2 hone
    go_wp2_with(first
     |(at_builtin;refine wpList_pushK rfl (.tmp 21) (.tmp 23) _ rfl 56 underlying24 elem_Fng (by decide) _ _ _ rfl (HO2.out.alloc _) rfl (by simp) rfl HOne.out (by rw[zd];omega) (by rw[zd];unfold maxLen;omega) ?_;intro v3 w3 ho3 hk3 hs3;have HO3:=hid ho3;have HK3:=hid hk3;have HS3:=hid hs3;clear ho3 hk3 hs3))
    go_roundw
    case rel=>exact GlX.push HM.out hRw HBl.out hlt HKj.out HOw.out HNw.out HX.out HK2.out HFb.out HKey.out HR2.out ((zx _ _).alloc (zq _) _) HO3.out HK3.out HS3.out (by go_num)
    case measure=>simp[intOf];omega
  ·
   have hlt':¬(j:Int)<m:=by omega
   have HD:=hid (GlX.doneO (by decide) HBl.out (by omega) HJ.out HKj.out HOw.out HNw.out HRe.out HS.out)
   go_wp2_with fail
   rw[<-HP.out]
   exact HD.out
theorem Bk.kxm{R b:Nat}{w w':World}{vals:List Value}{M:Nat->Prop}(h:Bk R w b vals)(hk:Kx M w w')(hb:¬M b):Bk R w' b vals:=
 ⟨λi x hi=>hk.cell hb (h.cell i x hi),λi=>(hk.frozen h.lt hb).trans (h.fr i),h.ne,zj h.lt hk.size⟩
theorem part_some{α:Type}{g:Bin.Rd α}{n p q:Nat}{bs:List UInt8}{x:α}(h:Bin.part n g bs p=some (x,q)):g (bs.take (p+n)) p=some (x,q):=by
 unfold Bin.part at h
 split at h
 ·
  cases hg:g (bs.take (p+n)) p with
  |none=>rw[hg]at h;cases h
  |some y=>
   rw[hg]at h
   dsimp only at h
   split at h
   ·exact h
   ·cases h
 ·cases h
def kCo(x:Fn):List Int×Fo:=(x.lo.zs,x.bo.f)
section
variable{R:Nat}{w0 w:World}{A:Option Addr}{c:Nat}{bs:List UInt8}{st:Option Nat}{p:Nat}{er:Value}
theorem c_funcs1{X:Nat}(hN:Nam w0)(h:Rst R w0 w A c bs st p er)(hX:w.cell? ⟨X,0,none⟩=some (pR R))(hXR:X≠R):
  Calls prog 215 #[.pointer (some ⟨X,0,none⟩)] w (RdE (λx:Fn=>(.agg #[.int .i64 x.ty,.slice x.lo.A x.lo.zs.length x.lo.c,.slice x.bo.A (len x.bo.f) x.bo.c]:Value)) kCo (FrK Fn.ok) R w0 w A c bs (st.bind λq=>Bin.gFn bs q)):=by
 have hge:=h.bel.size
 have hRl:=h.lt
 have hXl:X<w.heap.size:=zn _ _ hX
 have hc1:=h.c1
 obtain⟨W,hW⟩:∃W:World,W=(w.alloc (.cells #[.int .i64 0,.slice none 0 0,.slice none 0 0] 55)).alloc (.cells #[.int .i64 0,.slice none 0 0,.slice none 0 0] 55):=⟨_,rfl⟩
 have hsz:W.heap.size=w.heap.size+2:=by rw[hW];simp
 have HW:Hid (Rst R w0 W A c bs st p er):=hid (by rw[hW];exact(h.alloc _).alloc _)
 have HKW:Hid (Kx (Only R) w W):=hid (by rw[hW];exact(Kx.refl_.alloc _).alloc _)
 have HNW:Hid (Bk R W w.heap.size [.int .i64 0,.slice none 0 0,.slice none 0 0]):=hid (by rw[hW];exact(Bk.new h.lt #[.int .i64 0,.slice none 0 0,.slice none 0 0] 55 _ rfl rfl).alloc _)
 have HLW:Hid (Bk R W (w.heap.size+1) [.int .i64 0,.slice none 0 0,.slice none 0 0]):=hid (by rw[hW];exact Bk.new (h.alloc _).lt #[.int .i64 0,.slice none 0 0,.slice none 0 0] 55 _ (by simp) rfl)
 have HXW:Hid (W.cell? ⟨X,0,none⟩=some (pR R)):=hid (by rw[hW];exact(((Kx.refl_ (M:=λ_=>False)).alloc _).alloc _).cell (by simp) hX)
 obtain⟨r1,hr1⟩:∃r,(st.bind λq=>Bin.gNum bs q)=r:=⟨_,rfl⟩
 have HR1:=hid hr1
 have HE:=hid (show(st.bind λq=>Bin.gFn bs q)=r1.bind λx=>Bin.part x.1.toNat Bin.gCode bs x.2 from res_of hr1)
 obtain⟨res,hres⟩:∃res,(st.bind λq=>Bin.gFn bs q)=res:=⟨_,rfl⟩
 rw[hres]at HE⊢
 refine postL λP hP=>?_
 have HP:=hid hP
 have HNm:=hid hN
 clear h hP hr1 hres hN
 go_enter func215,ntmps215
 go_wp2_with fail
 rw[<-hW]
 have HWs:=hid hsz
 clear hW hsz hX hc1
 refine(rnumber_any HW.out).mono ?_
 unfold RdQ
 rintro e w1 ⟨v1,p1,er1,rfl,h1,hk1,⟨n,rfl,hn0,hn1⟩,hv1⟩
 rw[HR1.out]at h1 hv1
 have H1:=hid h1
 have HK1:=hid (HKW.out.trans hk1)
 have HN1:=hid (HNW.out.kx hk1)
 have HL1:=hid (HLW.out.kx hk1)
 have HX1:=hid (hk1.cell (show¬X=R from hXR) HXW.out)
 have HV1:=hid (λx q e=>(i64_inj (hv1 x q e)).symm)
 have HS1:=hid (show w.heap.size+2<=w1.heap.size from by rw[<-HWs.out];exact hk1.size)
 have x1:=HX1.out
 have d0:=H1.out.c0
 have d1:=H1.out.c1
 have hp1:=H1.out.hp
 have hc:=H1.out.hc
 have hm:=H1.out.hm
 unfold maxLen at hm
 clear h1 hk1 hv1
 obtain⟨N,rfl⟩:=xg hn0
 have hnw:w.heap.size≠R:=HNW.out.ne
 have hLR:w.heap.size+1≠R:=HLW.out.ne
 have hq1:∀x q,r1=some (x,q)->q=p1:=λx q e=>by
  have:=H1.out.lk
  rw[e]at this
  rcases this with⟨h,-⟩|⟨h,-⟩
  ·injection h
  ·cases h
 have HQ1:=hid hq1
 clear hq1
 have hwr:IntKind.i64.wrap ((bs.length:Int)-(p1:Int))=(bs.length:Int)-(p1:Int):=by rw[IntWalk.i64_left];unfold wrap64;omega
 by_cases hgt:(N:Int)<=(bs.length:Int)-(p1:Int)
 ·
  have hgt':¬(N:Int)>(bs.length:Int)-(p1:Int):=by omega
  have hn:p1+N<=bs.length:=by omega
  have HX9:Hid (w1.drew.cell? ⟨X,0,none⟩=some (pR R)):=hid x1
  have H9:Hid (Rst R w0 w1.drew A c bs (r1.map (·.2)) p1 er1):=hid (H1.out.drewN 1)
  have HN9:Hid (Bk R w1.drew w.heap.size [.int .i64 0,.slice none 0 0,.slice none 0 0]):=hid (HN1.out.kx (Kx.refl_.drewN 1))
  have HL9:Hid (Bk R w1.drew (w.heap.size+1) [.int .i64 0,.slice none 0 0,.slice none 0 0]):=hid (HL1.out.kx (Kx.refl_.drewN 1))
  have HK9:Hid (Kx (Only R) w w1.drew):=hid (HK1.out.drewN 1)
  have hs9:w.heap.size+2<=w1.drew.heap.size:=HS1.out
  obtain⟨res',hres'⟩:∃r,((r1.map (·.2)).bind λq=>Bin.gCode (bs.take (p1+N)) q)=r:=⟨_,rfl⟩
  have HC:=hid (rpart_any N 216 (λ_ _=>rfl) #[.pointer (some ⟨X,0,none⟩),.pointer (some ⟨w.heap.size+1,0,none⟩)] (FnQ R (w.heap.size+1) (w.heap.size+2) w1.drew res') H9.out hn (λw' h' hk'=>
   (c_funcs11 (L:=w.heap.size+1) (lo:=w.heap.size+2) HNm.out h' (hk'.cell (show¬X=R from hXR) HX9.out) hXR (by omega) (HL9.out.kx hk') (by omega) (by omega) (by omega) (zy hs9 hk'.size)).mono λe w2 hx=>by
    obtain⟨e1,st',p',er',g1,g2⟩:=hx
    rw[hres']at g2
    exact⟨e1,st',p',er',g1,g2.1,hk'.two.trans g2.2.1,g2.2.2⟩))
  have HR':=hid hres'
  clear hres'
  go_wp2_with fail
  refine wp_region_held_drew (S:=λw'=>w'.cell? ⟨X,0,none⟩=some (pR R)/\w'.cell? ⟨R,0,none⟩=some (.slice A bs.length c)/\w'.cell? ⟨R,1,none⟩=some (.int .i64 p1)) (by kernel_rfl) ⟨x1,d0,d1⟩ (λhHeld=>?_)
  refine region_take 0 (some 11) (v:=?_) rfl rfl (by kernel_rfl) (by kernel_rfl) (by kernel_rfl) (λ_ _ _ h=>h) (by rfl) ?_ (by assumption) ?_
  rotate_left
  ·(intro w' hSw;obtain⟨s0,s1,s2⟩:=hSw;go_simp;try with_reducible rfl)
  try simp only[Act.put,List.setIfInBounds_toArray,List.set_cons_zero,List.set_cons_succ]
  refine region_take 1 (some 12) (v:=?_) rfl rfl (by kernel_rfl) (by kernel_rfl) (by kernel_rfl) (λ_ _ _ h=>h) (by rfl) ?_ (by assumption) ?_
  rotate_left
  ·(intro w' hSw;obtain⟨s0,s1,s2⟩:=hSw;go_simp;try with_reducible rfl)
  try simp only[Act.put,List.setIfInBounds_toArray,List.set_cons_zero,List.set_cons_succ]
  refine region_take 2 (some 13) (v:=?_) rfl rfl (by kernel_rfl) (by kernel_rfl) (by kernel_rfl) (λ_ _ _ h=>h) (by rfl) ?_ (by assumption) ?_
  rotate_left
  ·(intro w' hSw;obtain⟨s0,s1,s2⟩:=hSw;go_simp;try with_reducible rfl)
  try simp only[Act.put,List.setIfInBounds_toArray,List.set_cons_zero,List.set_cons_succ]
  refine region_take 3 (some 14) (v:=?_) rfl rfl (by kernel_rfl) (by kernel_rfl) (by kernel_rfl) (λ_ _ _ h=>h) (by rfl) ?_ (by assumption) ?_
  rotate_left
  ·(intro w' hSw;obtain⟨s0,s1,s2⟩:=hSw;go_simp;try with_reducible rfl)
  try simp only[Act.put,List.setIfInBounds_toArray,List.set_cons_zero,List.set_cons_succ]
  refine region_take 4 (some 15) (v:=?_) rfl rfl (by kernel_rfl) (by kernel_rfl) (by kernel_rfl) (λ_ _ _ h=>h) (by rfl) ?_ (by assumption) ?_
  rotate_left
  ·(intro w' hSw;obtain⟨s0,s1,s2⟩:=hSw;go_simp;try with_reducible rfl)
  try simp only[Act.put,List.setIfInBounds_toArray,List.set_cons_zero,List.set_cons_succ]
  refine region_take 5 (some 16) (v:=?_) rfl rfl (by kernel_rfl) (by kernel_rfl) (by kernel_rfl) (λ_ _ _ h=>h) (by rfl) ?_ (by assumption) ?_
  rotate_left
  ·(intro w' hSw;obtain⟨s0,s1,s2⟩:=hSw;go_simp;try with_reducible rfl)
  try simp only[Act.put,List.setIfInBounds_toArray,List.set_cons_zero,List.set_cons_succ]
  refine region_take 6 (some 17) (v:=?_) rfl rfl (by kernel_rfl) (by kernel_rfl) (by kernel_rfl) (λ_ _ _ h=>h) (by rfl) ?_ (by assumption) ?_
  rotate_left
  ·(intro w' hSw;obtain⟨s0,s1,s2⟩:=hSw;go_simp;try with_reducible rfl)
  try simp only[Act.put,List.setIfInBounds_toArray,List.set_cons_zero,List.set_cons_succ]
  refine region_take 7 (some 18) (v:=?_) rfl rfl (by kernel_rfl) (by kernel_rfl) (by kernel_rfl) (λ_ _ _ h=>h) (by rfl) ?_ (by assumption) ?_
  rotate_left
  ·(intro w' hSw;obtain⟨s0,s1,s2⟩:=hSw;go_simp;try with_reducible rfl)
  try simp only[Act.put,List.setIfInBounds_toArray,List.set_cons_zero,List.set_cons_succ]
  refine region_take 8 (some 19) (v:=?_) rfl rfl (by kernel_rfl) (by kernel_rfl) (by kernel_rfl) (λ_ _ _ h=>h) (by rfl) ?_ (by assumption) ?_
  rotate_left
  ·(intro w' hSw;obtain⟨s0,s1,s2⟩:=hSw;go_simp;try with_reducible rfl)
  try simp only[Act.put,List.setIfInBounds_toArray,List.set_cons_zero,List.set_cons_succ]
  refine region_take 9 (some 20) (v:=?_) rfl rfl (by kernel_rfl) (by kernel_rfl) (by kernel_rfl) (λ_ _ _ h=>h) (by rfl) ?_ (by assumption) ?_
  rotate_left
  ·(intro w' hSw;obtain⟨s0,s1,s2⟩:=hSw;go_simp;try with_reducible rfl)
  try simp only[Act.put,List.setIfInBounds_toArray,List.set_cons_zero,List.set_cons_succ]
  refine region_take 10 (some 21) (v:=?_) rfl rfl (by kernel_rfl) (by kernel_rfl) (by kernel_rfl) (λ_ _ _ h=>h) (by rfl) ?_ (by assumption) ?_
  rotate_left
  ·(intro w' hSw;obtain⟨s0,s1,s2⟩:=hSw;go_simp;try with_reducible rfl)
  try simp only[Act.put,List.setIfInBounds_toArray,List.set_cons_zero,List.set_cons_succ]
  refine region_take 11 (some 22) (v:=?_) rfl rfl (by kernel_rfl) (by kernel_rfl) (by kernel_rfl) (λ_ _ _ h=>h) (by rfl) ?_ (by assumption) ?_
  rotate_left
  ·(intro w' hSw;obtain⟨s0,s1,s2⟩:=hSw;go_simp;try with_reducible rfl)
  try simp only[Act.put,List.setIfInBounds_toArray,List.set_cons_zero,List.set_cons_succ]
  refine wpAnyH_done (by kernel_rfl) ?_ _
  clear hHeld
  go_wp2_with fail
  refine HC.out.mono ?_
  rintro e w3 ⟨rfl,w2,st2,p2,er2,p3,er3,h2,⟨rfl,hk2,⟨⟨ty,lo,bo⟩,hty,hb2,hv2⟩⟩,h3,hk3⟩
  dsimp only at hty hb2 hv2
  subst hty
  have H3:=hid h3
  have HK3:Hid (Kx (Only R) w w3):=hid ((HK9.out.trans' hk2 (by rintro b (e|e);exact .inl e;exact .inr (by omega))).trans hk3)
  have HL3:=hid (hb2.kx hk3)
  have HN3:=hid ((HN9.out.kxm hk2 (by rintro(e|e);exact hnw e;omega)).kx hk3)
  have HK2:=hid hk3
  have HV2:=hid hv2
  have hsz3:=hk2.size
  have y0:=HL3.out.cell 0 _ rfl
  have y1:=HL3.out.cell 1 _ rfl
  have y2:=HL3.out.cell 2 _ rfl
  have z0:=HN3.out.cell 0 _ rfl
  have z1:=HN3.out.cell 1 _ rfl
  have z2:=HN3.out.cell 2 _ rfl
  have f0:=HN3.out.fr 0
  have f1:=HN3.out.fr 1
  have f2:=HN3.out.fr 2
  have HE2:Hid (endAt (p1+N) (res'.map (·.2))=res.map (·.2)/\∀y q,res=some (y,q)->res'=some (y,q)):=hid (by
   rw[HE.out,<-HR'.out]
   cases hr:r1 with
   |none=>exact⟨rfl,λy q e=>by cases e⟩
   |some y=>
    have e1:=HV1.out y.1 y.2 hr
    have e2:=HQ1.out y.1 y.2 hr
    simp only[Option.map_some,Option.bind_some]
    rw[e1,e2,xn]
    exact⟨endAt_part hn,λy q e=>part_some e⟩)
  clear h2 hk2 hb2 hv2 h3 hk3
  go_wp2_with fail
  refine bodyPost_ret (v:=.agg #[.int .i64 0,.slice lo.A lo.zs.length lo.c,.slice bo.A (len bo.f) bo.c]) (by simp[results,results215,go_sem,y0,y1,y2,z0,z1,z2]) rfl ?_
  rw[<-HP.out]
  refine⟨_,p3,er3,rfl,(((H3.out.setOther hge hnw 0 _).setOther hge hnw 1 _).setOther hge hnw 2 _).eq HE2.out.1,(((HK3.out.setCell (p:=⟨w.heap.size,0,none⟩) (.inr (zq _)) _).setCell (p:=⟨w.heap.size,1,none⟩) (.inr (zq _)) _).setCell (p:=⟨w.heap.size,2,none⟩) (.inr (zq _)) _),⟨⟨0,lo,bo⟩,rfl⟩,λx q e=>?_⟩
  obtain⟨g1,g2⟩:=HV2.out x q (HE2.out.2 x q e)
  refine⟨⟨0,lo,bo⟩,rfl,g1,?_⟩
  refine g2.kxm (M:=λb=>b=R\/b=w.heap.size) Fn.ok.more ((((HK2.out.mono (M':=λb=>b=R\/b=w.heap.size) λb hb=>.inl hb).setCell (p:=⟨w.heap.size,0,none⟩) (.inl (.inr rfl)) _).setCell (p:=⟨w.heap.size,1,none⟩) (.inl (.inr rfl)) _).setCell (p:=⟨w.heap.size,2,none⟩) (.inl (.inr rfl)) _) (λm hm=>⟨hm.2,by have:=hm.1;rintro(e|e)<;>omega⟩) (λm hm=>⟨by have:=hm.1;omega,by have h1:=hm.2;have h2:=HK2.out.size;simp[World.setCell];omega⟩)
 ·
  have hgt':(N:Int)>(bs.length:Int)-(p1:Int):=by omega
  have HE2:Hid (res=none):=hid (by
   rw[HE.out]
   cases hr:r1 with
   |none=>rfl
   |some y=>
    have e1:=HV1.out y.1 y.2 hr
    have e2:=HQ1.out y.1 y.2 hr
    rw[Option.bind_some]
    unfold Bin.part
    rw[if_neg (by omega)])
  go_wp2_with fail
  refine wp_region_held_drew (S:=λw'=>w'.cell? ⟨X,0,none⟩=some (pR R)/\w'.cell? ⟨R,0,none⟩=some (.slice A bs.length c)/\w'.cell? ⟨R,1,none⟩=some (.int .i64 p1)) (by kernel_rfl) ⟨x1,d0,d1⟩ (λhHeld=>?_)
  refine region_take 0 (some 11) (v:=?_) rfl rfl (by kernel_rfl) (by kernel_rfl) (by kernel_rfl) (λ_ _ _ h=>h) (by rfl) ?_ (by assumption) ?_
  rotate_left
  ·(intro w' hSw;obtain⟨s0,s1,s2⟩:=hSw;go_simp;try with_reducible rfl)
  try simp only[Act.put,List.setIfInBounds_toArray,List.set_cons_zero,List.set_cons_succ]
  refine region_take 1 (some 12) (v:=?_) rfl rfl (by kernel_rfl) (by kernel_rfl) (by kernel_rfl) (λ_ _ _ h=>h) (by rfl) ?_ (by assumption) ?_
  rotate_left
  ·(intro w' hSw;obtain⟨s0,s1,s2⟩:=hSw;go_simp;try with_reducible rfl)
  try simp only[Act.put,List.setIfInBounds_toArray,List.set_cons_zero,List.set_cons_succ]
  refine region_take 2 (some 13) (v:=?_) rfl rfl (by kernel_rfl) (by kernel_rfl) (by kernel_rfl) (λ_ _ _ h=>h) (by rfl) ?_ (by assumption) ?_
  rotate_left
  ·(intro w' hSw;obtain⟨s0,s1,s2⟩:=hSw;go_simp;try with_reducible rfl)
  try simp only[Act.put,List.setIfInBounds_toArray,List.set_cons_zero,List.set_cons_succ]
  refine region_take 3 (some 14) (v:=?_) rfl rfl (by kernel_rfl) (by kernel_rfl) (by kernel_rfl) (λ_ _ _ h=>h) (by rfl) ?_ (by assumption) ?_
  rotate_left
  ·(intro w' hSw;obtain⟨s0,s1,s2⟩:=hSw;go_simp;try with_reducible rfl)
  try simp only[Act.put,List.setIfInBounds_toArray,List.set_cons_zero,List.set_cons_succ]
  refine region_take 4 (some 15) (v:=?_) rfl rfl (by kernel_rfl) (by kernel_rfl) (by kernel_rfl) (λ_ _ _ h=>h) (by rfl) ?_ (by assumption) ?_
  rotate_left
  ·(intro w' hSw;obtain⟨s0,s1,s2⟩:=hSw;go_simp;try with_reducible rfl)
  try simp only[Act.put,List.setIfInBounds_toArray,List.set_cons_zero,List.set_cons_succ]
  refine region_take 5 (some 16) (v:=?_) rfl rfl (by kernel_rfl) (by kernel_rfl) (by kernel_rfl) (λ_ _ _ h=>h) (by rfl) ?_ (by assumption) ?_
  rotate_left
  ·(intro w' hSw;obtain⟨s0,s1,s2⟩:=hSw;go_simp;try with_reducible rfl)
  try simp only[Act.put,List.setIfInBounds_toArray,List.set_cons_zero,List.set_cons_succ]
  refine region_take 6 (some 17) (v:=?_) rfl rfl (by kernel_rfl) (by kernel_rfl) (by kernel_rfl) (λ_ _ _ h=>h) (by rfl) ?_ (by assumption) ?_
  rotate_left
  ·(intro w' hSw;obtain⟨s0,s1,s2⟩:=hSw;go_simp;try with_reducible rfl)
  try simp only[Act.put,List.setIfInBounds_toArray,List.set_cons_zero,List.set_cons_succ]
  refine region_take 7 (some 18) (v:=?_) rfl rfl (by kernel_rfl) (by kernel_rfl) (by kernel_rfl) (λ_ _ _ h=>h) (by rfl) ?_ (by assumption) ?_
  rotate_left
  ·(intro w' hSw;obtain⟨s0,s1,s2⟩:=hSw;go_simp;try with_reducible rfl)
  try simp only[Act.put,List.setIfInBounds_toArray,List.set_cons_zero,List.set_cons_succ]
  refine region_take 8 (some 19) (v:=?_) rfl rfl (by kernel_rfl) (by kernel_rfl) (by kernel_rfl) (λ_ _ _ h=>h) (by rfl) ?_ (by assumption) ?_
  rotate_left
  ·(intro w' hSw;obtain⟨s0,s1,s2⟩:=hSw;go_simp;try with_reducible rfl)
  try simp only[Act.put,List.setIfInBounds_toArray,List.set_cons_zero,List.set_cons_succ]
  refine region_take 9 (some 20) (v:=?_) rfl rfl (by kernel_rfl) (by kernel_rfl) (by kernel_rfl) (λ_ _ _ h=>h) (by rfl) ?_ (by assumption) ?_
  rotate_left
  ·(intro w' hSw;obtain⟨s0,s1,s2⟩:=hSw;go_simp;try with_reducible rfl)
  try simp only[Act.put,List.setIfInBounds_toArray,List.set_cons_zero,List.set_cons_succ]
  refine region_take 10 (some 21) (v:=?_) rfl rfl (by kernel_rfl) (by kernel_rfl) (by kernel_rfl) (λ_ _ _ h=>h) (by rfl) ?_ (by assumption) ?_
  rotate_left
  ·(intro w' hSw;obtain⟨s0,s1,s2⟩:=hSw;go_simp;try with_reducible rfl)
  try simp only[Act.put,List.setIfInBounds_toArray,List.set_cons_zero,List.set_cons_succ]
  refine region_take 11 (some 22) (v:=?_) rfl rfl (by kernel_rfl) (by kernel_rfl) (by kernel_rfl) (λ_ _ _ h=>h) (by rfl) ?_ (by assumption) ?_
  rotate_left
  ·(intro w' hSw;obtain⟨s0,s1,s2⟩:=hSw;go_simp;try with_reducible rfl)
  try simp only[Act.put,List.setIfInBounds_toArray,List.set_cons_zero,List.set_cons_succ]
  refine wpAnyH_done (by kernel_rfl) ?_ _
  clear hHeld
  go_wp2_with fail
  refine(rfail_any (p:Int) 2 (H1.out.drewN 1)).mono ?_
  rintro e w3 ⟨rfl,er3,h3,hk3⟩
  have H3:=hid h3
  have HK3:=hid ((HK1.out.drewN 1).trans hk3)
  have HL3:=hid ((HL1.out.kx (Kx.refl_.drewN 1)).kx hk3)
  have HN3:=hid ((HN1.out.kx (Kx.refl_.drewN 1)).kx hk3)
  have y0:=HL3.out.cell 0 _ rfl
  have y1:=HL3.out.cell 1 _ rfl
  have y2:=HL3.out.cell 2 _ rfl
  have z0:=HN3.out.cell 0 _ rfl
  have z1:=HN3.out.cell 1 _ rfl
  have z2:=HN3.out.cell 2 _ rfl
  have f0:=HN3.out.fr 0
  have f1:=HN3.out.fr 1
  have f2:=HN3.out.fr 2
  clear h3 hk3
  go_wp2_with fail
  refine bodyPost_ret (v:=.agg #[.int .i64 0,.slice none 0 0,.slice none 0 0]) (by simp[results,results215,go_sem,y0,y1,y2,z0,z1,z2]) rfl ?_
  rw[<-HP.out]
  exact⟨_,p1,er3,rfl,(((H3.out.setOther hge hnw 0 _).setOther hge hnw 1 _).setOther hge hnw 2 _).eq (by rw[HE2.out];rfl),(((HK3.out.setCell (p:=⟨w.heap.size,0,none⟩) (.inr (zq _)) _).setCell (p:=⟨w.heap.size,1,none⟩) (.inr (zq _)) _).setCell (p:=⟨w.heap.size,2,none⟩) (.inr (zq _)) _),⟨⟨0,⟨[],none,0⟩,⟨.nil,none,0⟩⟩,rfl⟩,λx q e=>by rw[HE2.out]at e;cases e⟩
end
end Go.Proofs.YteoijlfipmaoeaaGreatDoor
