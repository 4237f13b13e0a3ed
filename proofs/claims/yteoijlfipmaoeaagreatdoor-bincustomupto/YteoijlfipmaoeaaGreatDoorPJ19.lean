import Derived.Test.YteoijlfipmaoeaaGreatDoorPJ18
import Derived.Test.YteoijlfipmaoeaaGreatDoorPJ10
set_option linter.unusedVariables false
set_option linter.unusedSimpArgs false
set_option maxRecDepth 100000
set_option maxHeartbeats 8000000
namespace Go.Proofs.YteoijlfipmaoeaaGreatDoor
open Lib (hid)
open Go.RowKit Trx
open Go.Proofs.Tryz
def BadE(er:Value):Prop:=∃b o,er=.iface 115 (.pointer (some ⟨b,o,none⟩))
structure Rst(R:Nat)(w0 w:World)(A:Option Addr)(c:Nat)(bs:List UInt8)(st:Option Nat)(p:Nat)(er:Value):Prop where
 hR:w0.heap.size<=R
 c0:w.cell? ⟨R,0,none⟩=some (.slice A bs.length c)
 c1:w.cell? ⟨R,1,none⟩=some (.int .i64 p)
 c2:w.cell? ⟨R,2,none⟩=some er
 fr:∀i,w.frozen? ⟨R,i,none⟩=false
 sl:Sl w0 w0.heap.size A (u8s bs)
 hc:bs.length<=c
 hm:c<=maxLen
 hp:p<=bs.length
 bel:Below w0.heap.size w0 w
 lk:(st=some p/\er=.nilIface)\/(st=none/\BadE er)
@[reducible] def pR(R:Nat):Value:=.pointer (some ⟨R,0,none⟩)
section
variable{R:Nat}{w0 w w':World}{A:Option Addr}{c:Nat}{bs:List UInt8}{st:Option Nat}{p:Nat}{er:Value}
theorem Rst.lt(h:Rst R w0 w A c bs st p er):R<w.heap.size:=zn _ _ h.c0
theorem Rst.later(h:Rst R w0 w A c bs st p er)(hb:Below w.heap.size w w'):Rst R w0 w' A c bs st p er:=
 ⟨h.hR,(hb.cell (p:=⟨R,0,none⟩) h.lt).trans h.c0,(hb.cell (p:=⟨R,1,none⟩) h.lt).trans h.c1,(hb.cell (p:=⟨R,2,none⟩) h.lt).trans h.c2,λi=>(hb.frozen (p:=⟨R,i,none⟩) h.lt).trans (h.fr i),h.sl,h.hc,h.hm,h.hp,h.bel.trans (hb.mono h.bel.size),h.lk⟩
theorem Rst.alloc(h:Rst R w0 w A c bs st p er)(o:Obj):Rst R w0 (w.alloc o) A c bs st p er:=h.later ((zx _ _).alloc (zq _) o)
theorem Rst.drewN(h:Rst R w0 w A c bs st p er)(k:Nat):Rst R w0 (w.drewN k) A c bs st p er:=⟨h.hR,h.c0,h.c1,h.c2,h.fr,h.sl,h.hc,h.hm,h.hp,⟨h.bel.os,h.bel.tape,h.bel.output,h.bel.size,h.bel.block⟩,h.lk⟩
theorem Rst.setAt(h:Rst R w0 w A c bs (some p) p .nilIface){q:Nat}(hq:q<=bs.length):Rst R w0 (w.setCell ⟨R,1,none⟩ (.int .i64 q)) A c bs (some q) q .nilIface:=
 ⟨h.hR,(zk _ _ _ _ (by simp)).trans h.c0,ze _ _ _ h.c1,(zk _ _ _ _ (by simp)).trans h.c2,λi=>(za _ _ _ _).trans (h.fr i),h.sl,h.hc,h.hm,hq,h.bel.setCell h.hR _,.inl ⟨rfl,rfl⟩⟩
theorem Rst.setEr(h:Rst R w0 w A c bs st p er){e2:Value}(he:BadE e2):Rst R w0 (w.setCell ⟨R,2,none⟩ e2) A c bs none p e2:=
 ⟨h.hR,(zk _ _ _ _ (by simp)).trans h.c0,(zk _ _ _ _ (by simp)).trans h.c1,ze _ _ _ h.c2,λi=>(za _ _ _ _).trans (h.fr i),h.sl,h.hc,h.hm,h.hp,h.bel.setCell h.hR _,.inr ⟨rfl,he⟩⟩
theorem Rst.eq{st':Option Nat}(h:Rst R w0 w A c bs st p er)(e:st=st'):Rst R w0 w A c bs st' p er:=by subst e;exact h
theorem Rst.kx{M:Nat->Prop}(h:Rst R w0 w A c bs st p er)(hk:Kx M w w')(hR:¬M R)(hM:∀b,M b->w0.heap.size<=b):Rst R w0 w' A c bs st p er:=
 ⟨h.hR,hk.cell hR h.c0,hk.cell hR h.c1,hk.cell hR h.c2,λi=>(hk.frozen h.lt hR).trans (h.fr i),h.sl,h.hc,h.hm,h.hp,h.bel.trans (hk.below h.bel.size hM),h.lk⟩
end
def RdQ{α:Type}(R:Nat)(w0 w:World)(A:Option Addr)(c:Nat)(bs:List UInt8)(res:Option (α×Nat))(V:World->Value->α->Prop)(J:Value->Prop):Ending->World->Prop:=λe w'=>∃v p' er',e=.returned v/\Rst R w0 w' A c bs (res.map (·.2)) p' er'/\Kx (Only R) w w'/\J v/\∀x q,res=some (x,q)->V w' v x
theorem bspot_any(p k:Int)(w:World):Calls prog 35 #[.int .i64 p,.int .i64 k] w λe w'=>∃b o,e=.returned (.iface 115 (.pointer (some ⟨b,o,none⟩)))/\Below w.heap.size w w':=by
 go_enter func35,ntmps35
 go_wp2_with fail
 go_ret
 exact⟨_,_,rfl,(zx _ _).alloc (zq _) _⟩
theorem rfail_any{R:Nat}{w0 w:World}{A:Option Addr}{c:Nat}{bs:List UInt8}{st:Option Nat}{p:Nat}{er:Value}(a k:Int)(h:Rst R w0 w A c bs st p er):
  Calls prog 131 #[pR R,.int .i64 a,.int .i64 k] w λe w'=>e=.returned (.tuple #[])/\∃er',Rst R w0 w' A c bs none p er'/\Kx (Only R) w w':=by
 have HS:=hid (λw'=>bspot_any a k w')
 have H:=hid h
 have c2:=h.c2
 rcases h.lk with⟨-,rfl⟩|⟨hst,⟨b,o,rfl⟩⟩
 ·
  clear h
  go_enter func131,ntmps131
  go_wp2_with(first|(go_at_call 35;(with_reducible refine(HS.out _).mono ?_);rintro e w1 ⟨b,o,rfl,hb1⟩;have H1:=hid (H.out.later hb1);have HB1:=hid hb1;have d2:=H1.out.c2;have f2:=H1.out.fr 2;clear hb1))
  go_end0
  exact⟨rfl,_,H1.out.setEr ⟨b,o,rfl⟩,(Kx.of_below (M:=Only R) HB1.out).setCell (p:=⟨R,2,none⟩) (.inl rfl) _⟩
 ·
  subst hst
  clear h
  go_enter func131,ntmps131
  go_wp2_with fail
  go_end0
  exact⟨rfl,_,H.out,Kx.refl_⟩
theorem rbyte_any{R:Nat}{w0 w:World}{A:Option Addr}{c:Nat}{bs:List UInt8}{st:Option Nat}{p:Nat}{er:Value}(h:Rst R w0 w A c bs st p er):
  Calls prog 235 #[pR R] w (RdQ R w0 w A c bs (st.bind λq=>Bin.gByte bs q) (λ_ v x=>v=.int .u8 (x.toNat:Int)) (λv=>∃x:UInt8,v=.int .u8 (x.toNat:Int))):=by
 have H:=hid h
 have c0:=h.c0
 have c1:=h.c1
 have c2:=h.c2
 have f1:=h.fr 1
 have hp:=h.hp
 unfold RdQ
 rcases h.lk with⟨rfl,rfl⟩|⟨rfl,⟨b,o,rfl⟩⟩
 ·
  by_cases hlt:p<bs.length
  ·
   obtain⟨b,o,rfl,hbl,hcell⟩:=h.sl (λe=>by have:=congrArg List.length e;simp at this;subst this;simp at hlt)
   have q:w.cell? ⟨b,o+p,none⟩=some (.int .u8 ((bs[p]).toNat:Int)):=(h.bel.cell (p:=⟨b,o+p,none⟩) hbl).trans ((hcell p (by simpa using hlt)).trans (u8s_get bs p hlt))
   have hbw:b<w.heap.size:=zn _ _ q
   have t0:((p:Int)==(bs.length:Int))=false:=by simp;omega
   have t1:(p:Int)<bs.length:=by omega
   have t2:(0:Int)<=p:=by omega
   have hbR:b≠R:=by have:=h.hR;omega
   have hg:Bin.gByte bs p=some (bs[p],p+1):=by unfold Bin.gByte;rw[zb hlt];rfl
   obtain⟨x,hx⟩:∃x,bs[p]=x:=⟨_,rfl⟩
   rw[hx]at q hg
   have HG:=hid hg
   have hc:=h.hc
   have hm:=h.hm
   unfold maxLen at hm
   clear h hcell hg hx
   rw[Option.bind_some,HG.out]
   go_enter func235,ntmps235
   go_wp2_with fail
   refine wp_region_held_drew (S:=λw'=>w'.cell? ⟨R,0,none⟩=some (.slice (some ⟨b,o,none⟩) bs.length c)/\w'.cell? ⟨R,1,none⟩=some (.int .i64 p)) (by kernel_rfl) ⟨c0,c1⟩ (λhHeld=>?_)
   refine rtk 0 9 ?_
   refine rtk 1 10 ?_
   refine rtk 2 11 ?_
   refine rtk 3 12 ?_
   refine rtk 4 13 ?_
   refine rtk 5 14 ?_
   refine rtk 6 15 ?_
   refine rtk 7 16 ?_
   refine rtk 8 17 ?_
   refine rtk 9 18 ?_
   refine wpAnyH_done (by kernel_rfl) ?_ _
   clear hHeld
   go_wp2_with fail
   refine wp_region_held_drew (S:=λw'=>w'.cell? ⟨R,0,none⟩=some (.slice (some ⟨b,o,none⟩) bs.length c)/\w'.cell? ⟨R,1,none⟩=some (.int .i64 p)/\w'.cell? ⟨b,o+p,none⟩=some (.int .u8 x.toNat)) (by kernel_rfl) ⟨c0,c1,q⟩ (λhHeld=>?_)
   refine rtk 0 25 ?_
   refine rtk 1 26 ?_
   refine rtk 2 27 ?_
   refine rtk 3 28 ?_
   refine rtk 4 29 ?_
   refine rtk 5 30 ?_
   refine rtk 6 31 ?_
   refine rtk 7 32 ?_
   refine rtk 8 33 ?_
   refine rtk 9 34 ?_
   refine rtk 10 3 ?_
   refine wpAnyH_done (by kernel_rfl) ?_ _
   clear hHeld
   go_wp2_with fail
   go_ret
   exact⟨_,p+1,.nilIface,rfl,((H.out.drewN 2).setAt (q:=p+1) (by omega)),((Kx.refl_ (M:=Only R) (w:=w)).drewN 2).setCell (p:=⟨R,1,none⟩) (.inl rfl) _,⟨x,rfl⟩,λy q e=>by injection e with e;injection e with e1 e2;subst e1;rfl⟩
  ·
   have hpe:p=bs.length:=by omega
   have t0:((p:Int)==(bs.length:Int))=true:=by simp;omega
   have hg:Bin.gByte bs p=none:=by unfold Bin.gByte;rw[qt (by omega)];rfl
   have HF:=hid (rfail_any (p:Int) 2 (h.drewN 1))
   have HG:=hid hg
   clear h hg hpe
   have e1:w.drewN 1=w.drew:=rfl
   rw[e1]at HF
   rw[Option.bind_some,HG.out]
   go_enter func235,ntmps235
   go_wp2_with fail
   refine wp_region_held_drew (S:=λw'=>w'.cell? ⟨R,0,none⟩=some (.slice A bs.length c)/\w'.cell? ⟨R,1,none⟩=some (.int .i64 p)) (by kernel_rfl) ⟨c0,c1⟩ (λhHeld=>?_)
   refine rtk 0 9 ?_
   refine rtk 1 10 ?_
   refine rtk 2 11 ?_
   refine rtk 3 12 ?_
   refine rtk 4 13 ?_
   refine rtk 5 14 ?_
   refine rtk 6 15 ?_
   refine rtk 7 16 ?_
   refine rtk 8 17 ?_
   refine rtk 9 18 ?_
   refine wpAnyH_done (by kernel_rfl) ?_ _
   clear hHeld
   go_wp2_with(first|(go_at_call 131;(with_reducible refine HF.out.mono ?_);rintro e w1 ⟨rfl,er1,h1,hk1⟩;have H1:=hid h1;have HK1:=hid hk1;clear h1 hk1))
   go_ret
   exact⟨_,p,er1,rfl,H1.out,((Kx.refl_ (M:=Only R) (w:=w)).drewN 1).trans HK1.out,⟨0,rfl⟩,λy q e=>by cases e⟩
 ·
  clear h
  go_enter func235,ntmps235
  go_wp2_with fail
  go_ret
  exact⟨_,p,_,rfl,H.out,Kx.refl_,⟨0,rfl⟩,λy q e=>by cases e⟩
theorem rnumber_any{R:Nat}{w0 w:World}{A:Option Addr}{c:Nat}{bs:List UInt8}{st:Option Nat}{p:Nat}{er:Value}(h:Rst R w0 w A c bs st p er):
  Calls prog 33 #[pR R] w (RdQ R w0 w A c bs (st.bind λq=>Bin.gNum bs q) (λ_ v x=>v=.int .i64 x) (λv=>∃x:Int,v=.int .i64 x/\0<=x/\x<=4294967295)):=by
 have H:=hid h
 have c0:=h.c0
 have c1:=h.c1
 have c2:=h.c2
 have f1:=h.fr 1
 have hp:=h.hp
 unfold RdQ
 rcases h.lk with⟨rfl,rfl⟩|⟨rfl,⟨b,o,rfl⟩⟩
 ·
  cases hu:Leb.uOf bs p 32 with
  |none=>
   have hg:Bin.gNum bs p=none:=by unfold Bin.gNum;rw[hu];rfl
   have HC:=hid (U_int (w:=w.drew) (at_:=p) (bits:=32) none ((h.drewN 1).sl.below (h.drewN 1).bel) (h.drewN 1).bel.size rfl h.hc h.hm (by decide) (by decide) (by omega) (by have:=h.hp;omega) (by simpa using hu))
   unfold luV at HC
   dsimp only at HC
   have HG:=hid hg
   clear h hg hu
   rw[Option.bind_some,HG.out]
   go_enter func33,ntmps33
   go_wp2_with fail
   refine wp_region_held_drew (S:=λw'=>w'.cell? ⟨R,0,none⟩=some (.slice A bs.length c)/\w'.cell? ⟨R,1,none⟩=some (.int .i64 p)) (by kernel_rfl) ⟨c0,c1⟩ (λhHeld=>?_)
   refine rtk 0 12 ?_
   refine rtk 1 13 ?_
   refine rtk 2 14 ?_
   refine rtk 3 15 ?_
   refine rtk 4 16 ?_
   refine rtk 5 17 ?_
   refine rtk 6 18 ?_
   refine rtk 7 19 ?_
   refine rcl 8 λK hK=>?_
   go_simp
   refine HC.out.mono ?_
   rintro e w1 ⟨rfl,nq,hw1⟩
   have H1:Hid (Rst R w0 w1 A c bs (some p) p .nilIface):=hid (by rw[hw1];exact(H.out.drewN 1).drewN nq)
   have HK1:Hid (Kx (Only R) w w1):=hid (by rw[hw1];exact Kx.w1.drewN nq)
   have d0:=H1.out.c0
   have d1:=H1.out.c1
   have df:=H1.out.fr 1
   have hlt1:=H1.out.lt
   clear hw1 hHeld c0 c1 f1
   go_wp2_with fail
   refine rbk hK ⟨d0,d1⟩ λhHeld=>?_;clear hK K
   refine rtk 9 11 ?_
   refine rtk 10 21 ?_
   refine rtk 11 22 ?_
   refine rtk 12 23 ?_
   refine rtk 13 3 ?_
   refine rtk 14 4 ?_
   refine rtk 15 5 ?_
   refine wpAnyH_done (by kernel_rfl) ?_ _
   clear hHeld
   go_wp2_with(first|(go_at_call 131;(with_reducible refine(rfail_any (p:Int) 2 H1.out).mono ?_);rintro e w2 ⟨rfl,er2,h2,hk2⟩;have H2:=hid h2;have HK2:=hid hk2;clear h2 hk2))
   go_ret
   exact⟨_,p,er2,rfl,H2.out,HK1.out.trans HK2.out,⟨0,rfl,by omega,by omega⟩,λy q e=>by cases e⟩
  |some r=>
   obtain⟨u,n⟩:=r
   have hg:Bin.gNum bs p=some ((u:Int),n):=by unfold Bin.gNum;rw[hu];rfl
   have hn:=Leb.uOf_le _ _ _ _ _ hu
   have hu32:u<4294967296:=by
    have h1:=(Bin.num_got bs p (u:Int) n h.hp hg).1
    simp[Bin.pNum,num32]at h1
    omega
   have HC:=hid (U_int (w:=w.drew) (at_:=p) (bits:=32) (some (u,n)) ((h.drewN 1).sl.below (h.drewN 1).bel) (h.drewN 1).bel.size rfl h.hc h.hm (by decide) (by decide) (by omega) (by have:=h.hp;omega) (by simpa using hu))
   unfold luV at HC
   dsimp only at HC
   have HG:=hid hg
   have HNl:=hid hn
   have hcm:=h.hm
   have hcc:=h.hc
   unfold maxLen at hcm
   clear h hg hu
   rw[Option.bind_some,HG.out]
   go_enter func33,ntmps33
   go_wp2_with fail
   refine wp_region_held_drew (S:=λw'=>w'.cell? ⟨R,0,none⟩=some (.slice A bs.length c)/\w'.cell? ⟨R,1,none⟩=some (.int .i64 p)) (by kernel_rfl) ⟨c0,c1⟩ (λhHeld=>?_)
   refine rtk 0 12 ?_
   refine rtk 1 13 ?_
   refine rtk 2 14 ?_
   refine rtk 3 15 ?_
   refine rtk 4 16 ?_
   refine rtk 5 17 ?_
   refine rtk 6 18 ?_
   refine rtk 7 19 ?_
   refine rcl 8 λK hK=>?_
   go_simp
   refine HC.out.mono ?_
   rintro e w1 ⟨rfl,nq,hw1⟩
   have H1:Hid (Rst R w0 w1 A c bs (some p) p .nilIface):=hid (by rw[hw1];exact(H.out.drewN 1).drewN nq)
   have HK1:Hid (Kx (Only R) w w1):=hid (by rw[hw1];exact Kx.w1.drewN nq)
   have d0:=H1.out.c0
   have d1:=H1.out.c1
   have df:=H1.out.fr 1
   have hlt1:=H1.out.lt
   clear hw1 hHeld c0 c1 f1
   go_wp2_with fail
   refine rbk hK ⟨d0,d1⟩ λhHeld=>?_;clear hK K
   refine rtk 9 11 ?_
   refine rtk 10 21 ?_
   refine rtk 11 22 ?_
   refine rtk 12 23 ?_
   refine rtk 13 3 ?_
   refine rtk 14 4 ?_
   refine rtk 15 5 ?_
   refine wpAnyH_done (by kernel_rfl) ?_ _
   clear hHeld
   go_wp2_with fail
   go_ret
   exact⟨_,n,.nilIface,rfl,H1.out.setAt HNl.out,HK1.out.setCell (p:=⟨R,1,none⟩) (.inl rfl) _,⟨u,rfl,by omega,by omega⟩,λy q e=>by injection e with e;injection e with e1 e2;subst e1;rfl⟩
 ·
  clear h
  go_enter func33,ntmps33
  go_wp2_with fail
  go_ret
  exact⟨_,p,_,rfl,H.out,Kx.refl_,⟨0,rfl,by omega,by omega⟩,λy q e=>by cases e⟩
namespace Bin
def gUp(last:Nat):Rd UInt8:=bnd gByte λc=>if c.toNat<=last then ret c else fl
def gCount(lim:Int):Rd Int:=bnd gNum λn=>if n<=lim then ret n else fl
end Bin
theorem res_of{α β:Type}{st:Option Nat}{bs:List UInt8}{g:Bin.Rd α}{k:α->Bin.Rd β}{r:Option (α×Nat)}(h:(st.bind λq=>g bs q)=r):(st.bind λq=>Bin.bnd g k bs q)=r.bind λx=>k x.1 bs x.2:=by
 subst h
 cases st with
 |none=>rfl
 |some q=>
  simp only[Option.bind_some]
  unfold Bin.bnd
  cases g bs q<;>rfl
theorem bad_st{α β:Type}{r:Option (α×Nat)}{bs:List UInt8}(P:α->Prop)[DecidablePred P](f:α->Bin.Rd β)(h:∀x q,r=some (x,q)->¬P x):none=(r.bind λx=>(if P x.1 then f x.1 else Bin.fl) bs x.2).map (·.2):=by
 cases r with
 |none=>rfl
 |some y=>simp only[Option.bind_some];rw[if_neg (h y.1 y.2 rfl)];rfl
theorem bad_val{α β:Type}{r:Option (α×Nat)}{bs:List UInt8}(P:α->Prop)[DecidablePred P](f:α->Bin.Rd β){y:β}{q:Nat}(h:∀x q,r=some (x,q)->¬P x)(e:(r.bind λx=>(if P x.1 then f x.1 else Bin.fl) bs x.2)=some (y,q)):False:=by
 cases r with
 |none=>cases e
 |some z=>simp only[Option.bind_some]at e;rw[if_neg (h z.1 z.2 rfl)]at e;cases e
theorem ok_st{α β:Type}{r:Option (α×Nat)}{bs:List UInt8}(P:α->Prop)[DecidablePred P](f:α->β)(h:∀x q,r=some (x,q)->P x):r.map (·.2)=(r.bind λx=>(if P x.1 then Bin.ret (f x.1)else Bin.fl) bs x.2).map (·.2):=by
 cases r with
 |none=>rfl
 |some y=>simp only[Option.bind_some];rw[if_pos (h y.1 y.2 rfl)];rfl
theorem ok_val{α β:Type}{r:Option (α×Nat)}{bs:List UInt8}(P:α->Prop)[DecidablePred P](f:α->β){y:β}{q:Nat}(e:(r.bind λx=>(if P x.1 then Bin.ret (f x.1)else Bin.fl) bs x.2)=some (y,q)):∃x,r=some (x,q)/\y=f x/\P x:=by
 cases r with
 |none=>cases e
 |some z=>
  simp only[Option.bind_some]at e
  split at e
  ·
   rename_i hP
   obtain⟨rfl,rfl⟩:=Bin.ret_some e
   exact⟨z.1,rfl,rfl,hP⟩
  ·cases e
theorem map_st{α β:Type}{r:Option (α×Nat)}(f:α->β):r.map (·.2)=(r.map λx=>(f x.1,x.2)).map (·.2):=by cases r<;>rfl
theorem map_some{α β:Type}{r:Option (α×Nat)}{f:α->β}{y:β}{q:Nat}(h:(r.map λx=>(f x.1,x.2))=some (y,q)):∃x,r=some (x,q)/\y=f x:=by
 cases r with
 |none=>cases h
 |some z=>simp at h;exact⟨z.1,by rw[<-h.2],h.1.symm⟩
theorem u8_inj{x y:UInt8}(h:Value.int .u8 (x.toNat:Int)=.int .u8 (y.toNat:Int)):x=y:=by
 injection h with _ h
 exact UInt8.toNat_inj.1 (by omega)
theorem i64_inj{x y:Int}(h:Value.int .i64 x=.int .i64 y):x=y:=by injection h
def RdU(R:Nat)(w0 w:World)(A:Option Addr)(c:Nat)(bs:List UInt8)(st:Option Nat):Ending->World->Prop:=λe w'=>e=.returned (.tuple #[])/\∃p' er',Rst R w0 w' A c bs st p' er'/\Kx (Only R) w w'
section
variable{R:Nat}{w0 w:World}{A:Option Addr}{c:Nat}{bs:List UInt8}{st:Option Nat}{p:Nat}{er:Value}
theorem rup_any(last:Nat)(lv:Int)(hlv:lv=last)(h:Rst R w0 w A c bs st p er):
  Calls prog 237 #[pR R,.int .u8 lv] w (RdQ R w0 w A c bs (st.bind λq=>Bin.gUp last bs q) (λ_ v x=>v=.int .u8 (x.toNat:Int)) (λv=>∃x:UInt8,v=.int .u8 (x.toNat:Int))):=by
 subst hlv
 have HB:=hid (rbyte_any h)
 have c1:=h.c1
 obtain⟨r,hr⟩:∃r,(st.bind λq=>Bin.gByte bs q)=r:=⟨_,rfl⟩
 rw[hr]at HB
 rw[show(st.bind λq=>Bin.gUp last bs q)=r.bind (λx=>(if x.1.toNat<=last then Bin.ret x.1 else Bin.fl) bs x.2)from res_of hr]
 clear h hr
 unfold RdQ at HB⊢
 go_enter func237,ntmps237
 go_wp2_with(first
  |(go_at_call 235;(with_reducible refine HB.out.mono ?_);rintro e w1 ⟨v1,p1,er1,rfl,h1,hk1,⟨x,rfl⟩,hv1⟩;have H1:=hid h1;have HK1:=hid hk1;have HV1:=hid hv1;clear h1 hk1 hv1)
  |(go_at_call 131;(with_reducible refine(rfail_any (p:Int) 2 H1.out).mono ?_);rintro e w2 ⟨rfl,er2,h2,hk2⟩;have H2:=hid h2;have HK2:=hid hk2;clear h2 hk2))
 ·
  rename_i hq
  go_ret
  have hh:∀y q,r=some (y,q)->¬y.toNat<=last:=λy q e=>by have:=u8_inj (HV1.out y q e);subst this;omega
  exact⟨_,p1,er2,rfl,H2.out.eq (bad_st (λx:UInt8=>x.toNat<=last) (λx=>Bin.ret x) hh),HK1.out.trans HK2.out,⟨x,rfl⟩,λy q e=>(bad_val (λx:UInt8=>x.toNat<=last) (λx=>Bin.ret x) hh e).elim⟩
 ·
  rename_i hq
  go_ret
  have hh:∀y q,r=some (y,q)->y.toNat<=last:=λy q e=>by have:=u8_inj (HV1.out y q e);subst this;omega
  exact⟨_,p1,er1,rfl,H1.out.eq (ok_st (λx:UInt8=>x.toNat<=last) (λx=>x) hh),HK1.out,⟨x,rfl⟩,λy q e=>by obtain⟨z,hz,rfl,-⟩:=ok_val (λx:UInt8=>x.toNat<=last) (λx=>x) e;exact HV1.out _ q hz⟩
theorem gKind_eq:(st.bind λq=>Bin.gKind bs q)=(st.bind λq=>Bin.gUp 3 bs q).map λx=>(((x.1.toNat:Nat):Int),x.2):=by
 cases st with
 |none=>rfl
 |some q=>
  simp only[Option.bind_some]
  unfold Bin.gKind Bin.gUp Bin.bnd
  cases Bin.gByte bs q with
  |none=>rfl
  |some y=>dsimp only;split<;>rfl
theorem gFlag_eq:(st.bind λq=>Bin.gFlag bs q)=(st.bind λq=>Bin.gUp 1 bs q).map λx=>(x.1==1,x.2):=by
 cases st with
 |none=>rfl
 |some q=>
  simp only[Option.bind_some]
  unfold Bin.gFlag Bin.gUp Bin.bnd
  cases Bin.gByte bs q with
  |none=>rfl
  |some y=>dsimp only;split<;>rfl
theorem rkind_any(h:Rst R w0 w A c bs st p er):
  Calls prog 202 #[pR R] w (RdQ R w0 w A c bs (st.bind λq=>Bin.gKind bs q) (λ_ v x=>v=.int .i64 x) (λv=>∃x:Int,v=.int .i64 x/\0<=x/\x<=255)):=by
 have HB:=hid (rup_any 3 3 rfl h)
 rw[gKind_eq]
 obtain⟨r,hr⟩:∃r,(st.bind λq=>Bin.gUp 3 bs q)=r:=⟨_,rfl⟩
 rw[hr]at HB⊢
 clear h hr
 unfold RdQ at HB⊢
 go_enter func202,ntmps202
 go_wp2_with(first
  |(go_at_call 237;(with_reducible refine HB.out.mono ?_);rintro e w1 ⟨v1,p1,er1,rfl,h1,hk1,⟨x,rfl⟩,hv1⟩;have H1:=hid h1;have HK1:=hid hk1;have HV1:=hid hv1;have hxl:=x.toNat_lt;clear h1 hk1 hv1))
 go_ret
 exact⟨.int .i64 (x.toNat:Int),p1,er1,rfl,H1.out.eq (map_st (λx:UInt8=>((x.toNat:Nat):Int))),HK1.out,⟨(x.toNat:Int),rfl,by omega,by omega⟩,λy q e=>by obtain⟨z,hz,rfl⟩:=map_some (f:=λx:UInt8=>((x.toNat:Nat):Int)) e;rw[u8_inj (HV1.out z q hz)]⟩
theorem rflag_any(h:Rst R w0 w A c bs st p er):
  Calls prog 204 #[pR R] w (RdQ R w0 w A c bs (st.bind λq=>Bin.gFlag bs q) (λ_ v x=>v=.bool x) (λv=>∃x:Bool,v=.bool x)):=by
 have HB:=hid (rup_any 1 1 rfl h)
 rw[gFlag_eq]
 obtain⟨r,hr⟩:∃r,(st.bind λq=>Bin.gUp 1 bs q)=r:=⟨_,rfl⟩
 rw[hr]at HB⊢
 clear h hr
 unfold RdQ at HB⊢
 go_enter func204,ntmps204
 go_wp2_with(first
  |(go_at_call 237;(with_reducible refine HB.out.mono ?_);rintro e w1 ⟨v1,p1,er1,rfl,h1,hk1,⟨x,rfl⟩,hv1⟩;have H1:=hid h1;have HK1:=hid hk1;have HV1:=hid hv1;have hxl:=x.toNat_lt;clear h1 hk1 hv1))
 go_ret
 have hx:((x.toNat:Int)==1)=(x==1):=by
  by_cases e:x=1
  ·subst e;rfl
  ·
   have:x.toNat≠1:=λh=>e (UInt8.toNat_inj.1 h)
   have e1:(x==1)=false:=by simpa using e
   rw[e1]
   simp;omega
 exact⟨.bool ((x.toNat:Int)==1),p1,er1,rfl,H1.out.eq (map_st (λx:UInt8=>x==1)),HK1.out,⟨_,rfl⟩,λy q e=>by obtain⟨z,hz,rfl⟩:=map_some (f:=λx:UInt8=>x==1) e;rw[<-u8_inj (HV1.out z q hz),<-hx]⟩
theorem ronly_any(x0:UInt8)(xv:Int)(hxv:xv=x0.toNat)(h:Rst R w0 w A c bs st p er):
  Calls prog 198 #[pR R,.int .u8 xv] w (RdU R w0 w A c bs ((st.bind λq=>Bin.gOnly x0 bs q).map (·.2))):=by
 subst hxv
 have HB:=hid (rbyte_any h)
 have c1:=h.c1
 obtain⟨r,hr⟩:∃r,(st.bind λq=>Bin.gByte bs q)=r:=⟨_,rfl⟩
 rw[hr]at HB
 rw[show(st.bind λq=>Bin.gOnly x0 bs q)=r.bind (λx=>(if x.1=x0 then Bin.ret ()else Bin.fl) bs x.2)from res_of hr]
 clear h hr
 unfold RdQ at HB
 refine postL λP hP=>?_
 have HP:=hid hP
 clear hP
 go_enter func198,ntmps198
 go_wp2_with(first
  |(go_at_call 235;(with_reducible refine HB.out.mono ?_);rintro e w1 ⟨v1,p1,er1,rfl,h1,hk1,⟨x,rfl⟩,hv1⟩;have H1:=hid h1;have HK1:=hid hk1;have HV1:=hid hv1;clear h1 hk1 hv1)
  |(go_at_call 131;(with_reducible refine(rfail_any (p:Int) 2 H1.out).mono ?_);rintro e w2 ⟨rfl,er2,h2,hk2⟩;have H2:=hid h2;have HK2:=hid hk2;clear h2 hk2))
 ·
  rename_i hq
  go_end0
  have hh:∀y q,r=some (y,q)->¬y=x0:=λy q e=>by have:=u8_inj (HV1.out y q e);subst this;intro e2;subst e2;simp at hq
  rw[<-HP.out]
  exact⟨rfl,p1,er2,H2.out.eq (bad_st (λx:UInt8=>x=x0) (λ_=>Bin.ret ()) hh),HK1.out.trans HK2.out⟩
 ·
  rename_i hq
  go_end0
  have hh:∀y q,r=some (y,q)->y=x0:=λy q e=>by have:=u8_inj (HV1.out y q e);subst this;simp at hq;exact UInt8.toNat_inj.1 (by omega)
  rw[<-HP.out]
  exact⟨rfl,p1,er1,H1.out.eq (ok_st (λx:UInt8=>x=x0) (λ_=>()) hh),HK1.out⟩
theorem rplace_any(h:Rst R w0 w A c bs st p er):
  Calls prog 212 #[pR R] w (RdU R w0 w A c bs ((st.bind λq=>Bin.gZero bs q).map (·.2))):=by
 have HB:=hid (rnumber_any h)
 have c1:=h.c1
 obtain⟨r,hr⟩:∃r,(st.bind λq=>Bin.gNum bs q)=r:=⟨_,rfl⟩
 rw[hr]at HB
 rw[show(st.bind λq=>Bin.gZero bs q)=r.bind (λx=>(if x.1=0 then Bin.ret ()else Bin.fl) bs x.2)from res_of hr]
 clear h hr
 unfold RdQ at HB
 refine postL λP hP=>?_
 have HP:=hid hP
 clear hP
 go_enter func212,ntmps212
 go_wp2_with(first
  |(go_at_call 33;(with_reducible refine HB.out.mono ?_);rintro e w1 ⟨v1,p1,er1,rfl,h1,hk1,⟨x,rfl,hx0,hx1⟩,hv1⟩;have H1:=hid h1;have HK1:=hid hk1;have HV1:=hid hv1;clear h1 hk1 hv1)
  |(go_at_call 131;(with_reducible refine(rfail_any (p:Int) 2 H1.out).mono ?_);rintro e w2 ⟨rfl,er2,h2,hk2⟩;have H2:=hid h2;have HK2:=hid hk2;clear h2 hk2))
 ·
  rename_i hq
  go_end0
  have hh:∀y q,r=some (y,q)->¬y=0:=λy q e=>by have:=i64_inj (HV1.out y q e);subst this;intro e2;subst e2;simp at hq
  rw[<-HP.out]
  exact⟨rfl,p1,er2,H2.out.eq (bad_st (λx:Int=>x=0) (λ_=>Bin.ret ()) hh),HK1.out.trans HK2.out⟩
 ·
  rename_i hq
  go_end0
  have hh:∀y q,r=some (y,q)->y=0:=λy q e=>by have:=i64_inj (HV1.out y q e);subst this;simpa using hq
  rw[<-HP.out]
  exact⟨rfl,p1,er1,H1.out.eq (ok_st (λx:Int=>x=0) (λ_=>()) hh),HK1.out⟩
theorem rcount_any(lim:Int)(hl0:0<=lim)(hl1:lim<=4294967295)(h:Rst R w0 w A c bs st p er):
  Calls prog 132 #[pR R,.int .i64 lim] w (RdQ R w0 w A c bs (st.bind λq=>Bin.gCount lim bs q) (λ_ v x=>v=.int .i64 x) (λv=>∃x:Int,v=.int .i64 x/\0<=x/\x<=lim)):=by
 have HB:=hid (rnumber_any h)
 have c1:=h.c1
 obtain⟨r,hr⟩:∃r,(st.bind λq=>Bin.gNum bs q)=r:=⟨_,rfl⟩
 rw[hr]at HB
 rw[show(st.bind λq=>Bin.gCount lim bs q)=r.bind (λx=>(if x.1<=lim then Bin.ret x.1 else Bin.fl) bs x.2)from res_of hr]
 clear h hr
 unfold RdQ at HB⊢
 go_enter func132,ntmps132
 go_wp2_with(first
  |(go_at_call 33;(with_reducible refine HB.out.mono ?_);rintro e w1 ⟨v1,p1,er1,rfl,h1,hk1,⟨x,rfl,hx0,hx1⟩,hv1⟩;have H1:=hid h1;have HK1:=hid hk1;have HV1:=hid hv1;clear h1 hk1 hv1)
  |(go_at_call 131;(with_reducible refine(rfail_any (p:Int) 7 H1.out).mono ?_);rintro e w2 ⟨rfl,er2,h2,hk2⟩;have H2:=hid h2;have HK2:=hid hk2;clear h2 hk2))
 ·
  rename_i hq
  go_ret
  have hh:∀y q,r=some (y,q)->¬y<=lim:=λy q e=>by have:=i64_inj (HV1.out y q e);subst this;omega
  exact⟨_,p1,er2,rfl,H2.out.eq (bad_st (λx:Int=>x<=lim) (λx=>Bin.ret x) hh),HK1.out.trans HK2.out,⟨0,rfl,by omega,hl0⟩,λy q e=>(bad_val (λx:Int=>x<=lim) (λx=>Bin.ret x) hh e).elim⟩
 ·
  rename_i hq
  go_ret
  have hh:∀y q,r=some (y,q)->y<=lim:=λy q e=>by have:=i64_inj (HV1.out y q e);subst this;omega
  exact⟨_,p1,er1,rfl,H1.out.eq (ok_st (λx:Int=>x<=lim) (λx=>x) hh),HK1.out,⟨x,rfl,hx0,by omega⟩,λy q e=>by obtain⟨z,hz,rfl,-⟩:=ok_val (λx:Int=>x<=lim) (λx=>x) e;exact HV1.out _ q hz⟩
end
structure Bk(R:Nat)(w:World)(b:Nat)(vals:List Value):Prop where
 cell:∀i x,vals[i]? =some x->w.cell? ⟨b,i,none⟩=some x
 fr:∀i,w.frozen? ⟨b,i,none⟩=false
 ne:b≠R
 lt:b<w.heap.size
theorem Bk.kx{R b:Nat}{w w':World}{vals:List Value}(h:Bk R w b vals)(hk:Kx (Only R) w w'):Bk R w' b vals:=
 ⟨λi x hi=>hk.cell h.ne (h.cell i x hi),λi=>(hk.frozen h.lt h.ne).trans (h.fr i),h.ne,zj h.lt hk.size⟩
theorem Bk.alloc{R b:Nat}{w:World}{vals:List Value}(h:Bk R w b vals)(o:Obj):Bk R (w.alloc o) b vals:=h.kx (Kx.refl_.alloc o)
theorem Bk.new{R:Nat}{w:World}{vals:List Value}(hR:R<w.heap.size)(cs:Array Value)(t:TypeId)(n:Nat)(hn:n=w.heap.size)(hv:cs.toList=vals):Bk R (w.alloc (.cells cs t)) n vals:=by
 subst hn hv
 exact⟨λi x hi=>by rw[zv _ _ _ _ rfl];simpa using hi,λi=>zw _ _ _ _ rfl,by omega,by simp⟩
def Bk.A(w:World)(b:Nat):Nat->List Value->Prop
 |_,[]=>True
 |i,v::r=>w.cell? ⟨b,i,none⟩=some v/\w.frozen? ⟨b,i,none⟩=false/\Bk.A w b (i+1) r
theorem Bk.A_of{R b:Nat}{w:World}{vals:List Value}(h:Bk R w b vals):∀(l:List Value) (i:Nat),vals.drop i=l->Bk.A w b i l
 | [],_,_=>trivial
 |v::r,i,e=>by
  have hv:vals[i]? =some v:=by
   have:=jk (xs:=vals) (i:=i) (j:=0)
   rw[e]at this
   simpa using this.symm
  refine⟨h.cell i v hv,h.fr i,Bk.A_of h r (i+1) ?_⟩
  rw[<-jd,e];rfl
theorem Bk.all{R b:Nat}{w:World}{vals:List Value}(h:Bk R w b vals):Bk.A w b 0 vals:=h.A_of vals 0 rfl
structure Rz(R:Nat)(w0 w:World)(A:Option Addr)(c:Nat)(bs:List UInt8)(N:Nat)(vals:List Value)(X:Nat)(W:World)(st:Option Nat)(p:Nat)(er:Value):Prop where
 r:Rst R w0 W A c bs st p er
 k:Kx (Only R) w W
 b:Bk R W N vals
 x:W.cell? ⟨X,0,none⟩=some (pR R)
section
variable{R N X:Nat}{w0 w W W':World}{A:Option Addr}{c:Nat}{bs:List UInt8}{st st':Option Nat}{p p':Nat}{er er':Value}{vals:List Value}
theorem Rz.step(h:Rz R w0 w A c bs N vals X W st p er)(hXR:X≠R)(h1:Rst R w0 W' A c bs st' p' er')(hk:Kx (Only R) W W'):Rz R w0 w A c bs N vals X W' st' p' er':=⟨h1,h.k.trans hk,h.b.kx hk,hk.cell (show¬X=R from hXR) h.x⟩
theorem Rz.drew(h:Rz R w0 w A c bs N vals X W st p er):Rz R w0 w A c bs N vals X W.drew st p er:=⟨h.r.drewN 1,h.k.drewN 1,h.b.kx (Kx.refl_.drewN 1),h.x⟩
theorem Rz.new(h:Rst R w0 w A c bs st p er)(hX:w.cell? ⟨X,0,none⟩=some (pR R))(vals:List Value)(t:TypeId):Rz R w0 w A c bs w.heap.size vals X (w.alloc (.cells vals.toArray t)) st p er:=
 ⟨h.alloc _,Kx.refl_.alloc _,Bk.new h.lt vals.toArray t _ rfl (by simp),((Kx.refl_ (M:=λ_=>False)).alloc _).cell (by simp) hX⟩
theorem Rz.alloc(h:Rz R w0 w A c bs N vals X W st p er)(o:Obj):Rz R w0 w A c bs N vals X (W.alloc o) st p er:=⟨h.r.alloc _,h.k.alloc _,h.b.kx (Kx.refl_.alloc _),((Kx.refl_ (M:=λ_=>False)).alloc _).cell (by simp) h.x⟩
theorem Rz.box(h:Rz R w0 w A c bs N vals X W st p er)(zs:List Value)(t:TypeId):∃(Wa:World) (L:Nat),Wa=W.alloc (.cells zs.toArray t)/\L=W.heap.size/\Bk R Wa L zs/\Rz R w0 w A c bs N vals X Wa st p er/\L≠N/\w.heap.size<=L/\X≠L:=
 ⟨_,_,rfl,rfl,Bk.new h.r.lt zs.toArray t _ rfl (by simp),h.alloc _,by have:=h.b.lt;omega,h.k.size,by have:=zn _ _ h.x;dsimp only at this;omega⟩
theorem Rz.newD(h:Rst R w0 w A c bs st p er)(hX:w.cell? ⟨X,0,none⟩=some (pR R))(vals:List Value)(t:TypeId):∃W1:World,W1=(w.alloc (.cells vals.toArray t)).drew/\Rz R w0 w A c bs w.heap.size vals X W1 st p er:=⟨_,rfl,(Rz.new h hX vals t).drew⟩
end
theorem Rst.setOther{R:Nat}{w0 w:World}{A:Option Addr}{c:Nat}{bs:List UInt8}{st:Option Nat}{p:Nat}{er:Value}(h:Rst R w0 w A c bs st p er){n:Nat}(hn:w0.heap.size<=n)(hne:n≠R)(i:Nat)(x:Value):Rst R w0 (w.setCell ⟨n,i,none⟩ x) A c bs st p er:=
 ⟨h.hR,(zk _ _ _ _ (by simp[hne])).trans h.c0,(zk _ _ _ _ (by simp[hne])).trans h.c1,(zk _ _ _ _ (by simp[hne])).trans h.c2,λi=>(za _ _ _ _).trans (h.fr i),h.sl,h.hc,h.hm,h.hp,h.bel.setCell hn _,h.lk⟩
theorem lim_t{st:Option Nat}{bs:List UInt8}{r1:Option (Bool×Nat)}{r2 r3:Option (Int×Nat)}(h1:(st.bind λq=>Bin.gFlag bs q)=r1)(hx:∀x q,r1=some (x,q)->x=true)(h2:((r1.map (·.2)).bind λq=>Bin.gNum bs q)=r2)(h3:((r2.map (·.2)).bind λq=>Bin.gNum bs q)=r3):
  r3.map (·.2)=(st.bind λq=>Bin.gLim bs q).map (·.2)/\∀l q,(st.bind λq=>Bin.gLim bs q)=some (l,q)->∃n q2 x,r2=some (n,q2)/\r3=some (x,q)/\l=⟨n,x,true⟩:=by
 have e:(st.bind λq=>Bin.gLim bs q)=_:=res_of h1
 rw[e]
 subst h3 h2
 clear h1 e
 cases r1 with
 |none=>exact⟨rfl,λ_ _ h=>by cases h⟩
 |some y=>
  have:=hx y.1 y.2 rfl
  obtain⟨y1,y2⟩:=y
  simp only at this
  subst this
  simp only[Option.map_some,Option.bind_some]
  unfold Bin.bnd
  cases Bin.gNum bs y2 with
  |none=>exact⟨rfl,λ_ _ h=>by cases h⟩
  |some z=>
   dsimp only[Option.map_some,Option.bind_some]
   simp only[if_true]
   cases hz:Bin.gNum bs z.2 with
   |none=>simp[hz]
   |some v=>
    simp only[hz,Bin.ret,Option.map_some]
    refine⟨trivial,λl q h=>?_⟩
    injection h with h
    injection h with e1 e2
    subst e1 e2
    exact⟨z.1,z.2,v.1,rfl,rfl,rfl⟩
theorem lim_f{st:Option Nat}{bs:List UInt8}{r1:Option (Bool×Nat)}{r2:Option (Int×Nat)}(h1:(st.bind λq=>Bin.gFlag bs q)=r1)(hx:∀x q,r1=some (x,q)->x=false)(h2:((r1.map (·.2)).bind λq=>Bin.gNum bs q)=r2):
  r2.map (·.2)=(st.bind λq=>Bin.gLim bs q).map (·.2)/\∀l q,(st.bind λq=>Bin.gLim bs q)=some (l,q)->∃n,r2=some (n,q)/\l=⟨n,0,false⟩:=by
 have e:(st.bind λq=>Bin.gLim bs q)=_:=res_of h1
 rw[e]
 subst h2
 clear h1 e
 cases r1 with
 |none=>exact⟨rfl,λ_ _ h=>by cases h⟩
 |some y=>
  have:=hx y.1 y.2 rfl
  obtain⟨y1,y2⟩:=y
  simp only at this
  subst this
  simp only[Option.map_some,Option.bind_some]
  unfold Bin.bnd
  cases Bin.gNum bs y2 with
  |none=>exact⟨rfl,λ_ _ h=>by cases h⟩
  |some z=>
   dsimp only
   rw[if_neg (by decide)]
   refine⟨rfl,λl q h=>?_⟩
   obtain⟨rfl,rfl⟩:=Bin.ret_some h
   exact⟨z.1,rfl,rfl⟩
section
variable{R:Nat}{w0 w:World}{A:Option Addr}{c:Nat}{bs:List UInt8}{st:Option Nat}{p:Nat}{er:Value}
theorem rlimits_any(h:Rst R w0 w A c bs st p er):
  Calls prog 141 #[pR R] w (RdQ R w0 w A c bs (st.bind λq=>Bin.gLim bs q) (λ_ v x=>v=.agg #[.int .i64 x.mn,.int .i64 x.mx,.bool x.hs]) (λv=>∃l:Lm,l.ok/\v=.agg #[.int .i64 l.mn,.int .i64 l.mx,.bool l.hs])):=by
 have HN:=hid (λ(w':World) (st':Option Nat) (p':Nat) (er':Value) (h':Rst R w0 w' A c bs st' p' er')=>rnumber_any h')
 have HA:=hid (h.alloc (.cells #[.int .i64 0,.int .i64 0,.bool false] 75))
 have HK:=hid (Kx.refl_.alloc (.cells #[.int .i64 0,.int .i64 0,.bool false] 75):Kx (Only R) w (w.alloc (.cells #[.int .i64 0,.int .i64 0,.bool false] 75)))
 have HT:=hid (Bk.new h.lt #[.int .i64 0,.int .i64 0,.bool false] 75 _ rfl rfl)
 have HB:=hid (rflag_any HA.out)
 obtain⟨r1,hr1⟩:∃r,(st.bind λq=>Bin.gFlag bs q)=r:=⟨_,rfl⟩
 have HR1:=hid hr1
 rw[hr1]at HB
 refine postL λP hP=>?_
 have HP:=hid hP
 have hge:=h.bel.size
 clear h hr1 hP
 unfold RdQ at HB HN
 go_enter func141,ntmps141
 go_wp2_with(first
  |(go_at_call 204;(with_reducible refine HB.out.mono ?_);rintro e w1 ⟨v1,p1,er1,rfl,h1,hk1,⟨x,rfl⟩,hv1⟩;have H1:=hid h1;have HK1:=hid (HK.out.trans hk1);have HT1:=hid (HT.out.kx hk1);have HV1:=hid hv1;clear h1 hk1 hv1)
  |(go_at_call 33;(with_reducible refine(HN.out _ _ _ _ H1.out).mono ?_);rintro e w2 ⟨v2,p2,er2,rfl,h2,hk2,⟨n,rfl,hn0,hn1⟩,hv2⟩;have H2:=hid h2;have HK2:=hid (HK1.out.trans hk2);have HT2:=hid (HT1.out.kx hk2);have HV2:=hid hv2;have hr2:=h2.lt;have y0:=HT2.out.cell 0 _ rfl;have y1:=HT2.out.cell 1 _ rfl;have y2:=HT2.out.cell 2 _ rfl;have g0:=HT2.out.fr 0;have g1:=HT2.out.fr 1;have g2:=HT2.out.fr 2;have hl2:=HT2.out.lt;have FA:=hid (λo i=>(HT2.out.alloc o).fr i);have fa0:=λo=>FA.out o 0;have fa1:=λo=>FA.out o 1;have fa2:=λo=>FA.out o 2;clear h2 hk2 hv2)
  |(go_at_call 33;(with_reducible refine(HN.out _ _ _ _ (H2.out.alloc _)).mono ?_);rintro e w3 ⟨v3,p3,er3,rfl,h3,hk3,⟨m,rfl,hm0,hm1⟩,hv3⟩;have H3:=hid h3;have HK3:=hid ((HK2.out.alloc _).trans hk3);have HT3:=hid ((HT2.out.alloc _).kx hk3);have HL3:=hid ((Bk.new hr2 #[.int .i64 n,.int .i64 0,.bool true] 75 _ rfl rfl).kx hk3);have HV3:=hid hv3;have u0:=HT3.out.cell 0 _ rfl;have u1:=HT3.out.cell 1 _ rfl;have u2:=HT3.out.cell 2 _ rfl;have v0:=HT3.out.fr 0;have v1:=HT3.out.fr 1;have v2:=HT3.out.fr 2;have z0:=HL3.out.cell 0 _ rfl;have z1:=HL3.out.cell 1 _ rfl;have z2:=HL3.out.cell 2 _ rfl;have zf:=HL3.out.fr 1;have hne:w.heap.size≠w2.heap.size:=(by omega);clear h3 hk3 hv3))
 ·
  have hx:= ‹x=true›
  subst hx
  obtain⟨e1,e2⟩:=lim_t HR1.out (λy q e=>(by have:=HV1.out y q e;injection this with this;exact this.symm)) rfl rfl
  refine bodyPost_ret (v:=.agg #[.int .i64 n,.int .i64 m,.bool true]) (by simp[results,results141,go_sem,u0,u1,u2,hne,hne.symm]) rfl ?_
  rw[<-HP.out]
  have hn3:w2.heap.size≠R:=by omega
  have hnw:w.heap.size≠R:=HT3.out.ne
  refine⟨_,p3,er3,rfl,((((H3.out.setOther (by omega) hn3 1 _).setOther hge hnw 0 _).setOther hge hnw 1 _).setOther hge hnw 2 _).eq e1,(((HK3.out.setCell (p:=⟨w2.heap.size,1,none⟩) (.inr (by show w.heap.size<=w2.heap.size;omega)) _).setCell (p:=⟨w.heap.size,0,none⟩) (.inr (zq _)) _).setCell (p:=⟨w.heap.size,1,none⟩) (.inr (zq _)) _).setCell (p:=⟨w.heap.size,2,none⟩) (.inr (zq _)) _,⟨⟨n,m,true⟩,⟨(show inI n by unfold inI;omega),(show inI m by unfold inI;omega)⟩,rfl⟩,λy q e=>?_⟩
  obtain⟨n',q2,m',f1,f2,rfl⟩:=e2 y q e
  rw[i64_inj (HV2.out _ _ f1),i64_inj (HV3.out _ _ f2)]
 ·
  have hx:= ‹x=false›
  subst hx
  obtain⟨e1,e2⟩:=lim_f HR1.out (λy q e=>(by have:=HV1.out y q e;injection this with this;exact this.symm)) rfl
  refine bodyPost_ret (v:=.agg #[.int .i64 n,.int .i64 0,.bool false]) (by simp[results,results141,go_sem,y0,y1,y2,hl2]) rfl ?_
  rw[<-HP.out]
  have hnw:w.heap.size≠R:=HT2.out.ne
  refine⟨_,p2,er2,rfl,((((H2.out.setOther hge hnw 0 _).setOther hge hnw 1 _).setOther hge hnw 2 _).alloc _).eq e1,(((HK2.out.setCell (p:=⟨w.heap.size,0,none⟩) (.inr (zq _)) _).setCell (p:=⟨w.heap.size,1,none⟩) (.inr (zq _)) _).setCell (p:=⟨w.heap.size,2,none⟩) (.inr (zq _)) _).alloc _,⟨⟨n,0,false⟩,⟨(show inI n by unfold inI;omega),(show inI 0 by unfold inI;omega)⟩,rfl⟩,λy q e=>?_⟩
  obtain⟨n',f1,rfl⟩:=e2 y q e
  rw[i64_inj (HV2.out _ _ f1)]
theorem seq_eq{α β:Type}{g:Bin.Rd α}{k:Bin.Rd β}{r:Option (α×Nat)}(h:(st.bind λq=>g bs q)=r):(st.bind λq=>Bin.bnd g (λ_=>k) bs q)=(r.map (·.2)).bind λq=>k bs q:=by
 rw[res_of h]
 cases r<;>rfl
theorem rtable_any(h:Rst R w0 w A c bs st p er):
  Calls prog 139 #[pR R] w (RdQ R w0 w A c bs (st.bind λq=>Bin.gTab bs q) (λ_ v x=>v=.agg #[.int .i64 x.mn,.int .i64 x.mx,.bool x.hs]) (λv=>∃l:Lm,l.ok/\v=.agg #[.int .i64 l.mn,.int .i64 l.mx,.bool l.hs])):=by
 have HA:=hid (h.alloc (.cells #[.int .i64 0,.int .i64 0,.bool false] 75))
 have HK:=hid (Kx.refl_.alloc (.cells #[.int .i64 0,.int .i64 0,.bool false] 75):Kx (Only R) w (w.alloc (.cells #[.int .i64 0,.int .i64 0,.bool false] 75)))
 have HT:=hid (Bk.new h.lt #[.int .i64 0,.int .i64 0,.bool false] 75 _ rfl rfl)
 have HB:=hid (ronly_any 112 112 rfl HA.out)
 rw[show(st.bind λq=>Bin.gTab bs q)=((st.bind λq=>Bin.gOnly 112 bs q).map (·.2)).bind (λq=>Bin.gLim bs q)from seq_eq rfl]
 obtain⟨s1,hs1⟩:∃s,(st.bind λq=>Bin.gOnly 112 bs q).map (·.2)=s:=⟨_,rfl⟩
 rw[hs1]at HB⊢
 refine postL λP hP=>?_
 have HP:=hid hP
 have hge:=h.bel.size
 clear h hs1 hP
 unfold RdU at HB
 go_enter func139,ntmps139
 go_wp2_with(first
  |(go_at_call 198;(with_reducible refine HB.out.mono ?_);rintro e w1 ⟨rfl,p1,er1,h1,hk1⟩;have H1:=hid h1;have HK1:=hid (HK.out.trans hk1);have HT1:=hid (HT.out.kx hk1);clear h1 hk1)
  |(go_at_call 141;(with_reducible refine(rlimits_any H1.out).mono ?_);unfold RdQ;rintro e w2 ⟨v2,p2,er2,rfl,h2,hk2,⟨l,hl,rfl⟩,hv2⟩;have H2:=hid h2;have HK2:=hid (HK1.out.trans hk2);have HT2:=hid (HT1.out.kx hk2);have HV2:=hid hv2;have HLo:=hid hl;have y0:=HT2.out.cell 0 _ rfl;have y1:=HT2.out.cell 1 _ rfl;have y2:=HT2.out.cell 2 _ rfl;have g0:=HT2.out.fr 0;have g1:=HT2.out.fr 1;have g2:=HT2.out.fr 2;clear h2 hk2 hv2 hl))
 refine bodyPost_ret (v:=.agg #[.int .i64 l.mn,.int .i64 l.mx,.bool l.hs]) (by simp[results,results139,go_sem,y0,y1,y2]) rfl ?_
 rw[<-HP.out]
 have hnw:w.heap.size≠R:=HT2.out.ne
 exact⟨_,p2,er2,rfl,(((H2.out.setOther hge hnw 0 _).setOther hge hnw 1 _).setOther hge hnw 2 _),((HK2.out.setCell (p:=⟨w.heap.size,0,none⟩) (.inr (zq _)) _).setCell (p:=⟨w.heap.size,1,none⟩) (.inr (zq _)) _).setCell (p:=⟨w.heap.size,2,none⟩) (.inr (zq _)) _,⟨l,HLo.out,rfl⟩,λy q e=>HV2.out y q e⟩
end
end Go.Proofs.YteoijlfipmaoeaaGreatDoor
