import Derived.Test.YteoijlfipmaoeaaGreatDoorPJ17
set_option linter.unusedVariables false
set_option linter.unusedSimpArgs false
set_option maxRecDepth 100000
set_option maxHeartbeats 16000000
namespace Go.Proofs.YteoijlfipmaoeaaGreatDoor
open Lib (hid)
open Go.RowKit Trx
open Go.Proofs.Tryz
theorem co1_any{W:Nat}{w0 w:World}{v u:Value}{bs:List UInt8}{bad:Bool}{B0 n:Nat}(x:Fn)(hx:x.ok w0 w0.heap.size)(hN:Nam w0)(hwt:wt x.bo.f<=2200000)(hs:x.lo.zs.length<=64)(h:Wr W w0 w v u bs bad)
  (q:w.cell? ⟨B0,0,none⟩=some (pW W)) (q0:w.cell? ⟨n,0,none⟩=some (.int .i64 x.ty)) (q1:w.cell? ⟨n,1,none⟩=some (.slice x.lo.A x.lo.zs.length x.lo.c)) (q2:w.cell? ⟨n,2,none⟩=some (.slice x.bo.A (len x.bo.f) x.bo.c)) (hL:bs.length+(Bin.pCode (kFn x).2).1.length<=100000000):
  Calls prog 107 #[.pointer (some ⟨B0,0,none⟩),.pointer (some ⟨n,0,none⟩)] w (WrP W w0 w v u bs bad (Bin.pCode (kFn x).2)):=by
 have HC:=hid (code_any x hx hN hwt hs h hL)
 clear h hx hN hL
 unfold WrP at HC⊢
 go_enter func107,ntmps107
 go_wp2_with(first|(go_at_call 108;(with_reducible refine HC.out.mono ?_);rintro e w1 ⟨rfl,v1,hw1,hk1⟩;have HW1:=hid hw1;have HK1:=hid hk1;clear hw1 hk1))
 go_end0
 exact⟨rfl,v1,HW1.out,HK1.out⟩
theorem lst_part{W:Nat}{w0 w w':World}{v u:Value}{bs:List UInt8}{bad:Bool}{A:Option Addr}{l:List UInt8}(hW:W<w.heap.size)(hv:∀g,v.ownBlock=some g->g<w.heap.size)(hn:NewS (Win w.heap.size w') w' w'.heap.size A (u8s l)):Lst W w' v A 1 (ones (u8s l)):=λw2 v2 hk=>
 ((hn w2 (λb o hb=>zm (hk.keep b hb.2 (by have:=hb.1;omega) (λe=>by have:=hv b e;have:=hb.1;omega)).1)).more hk.size).ones
theorem declCo_any{W:Nat}{w0 w:World}{v u:Value}{bs:List UInt8}{bad:Bool}{B0:Nat}(x:Fn)(hx:x.ok w0 w0.heap.size)(hN:Nam w0)(hwt:wt x.bo.f<=2200000)(hs:x.lo.zs.length<=64)(h:Wr W w0 w v u bs bad)(hB:Bx W w v B0 [pW W])(hL:bs.length+(Bin.pFn (kFn x).2).1.length<=100000000):
  Calls prog 104 #[.agg #[.int .i64 x.ty,.slice x.lo.A x.lo.zs.length x.lo.c,.slice x.bo.A (len x.bo.f) x.bo.c],.pointer (some ⟨B0,0,none⟩)] w (WrP W w0 w v u bs bad (Bin.pFn (kFn x).2)):=by
 obtain⟨⟨y,t⟩,hpc⟩:∃pc,Bin.pCode (kFn x).2=pc:=⟨_,rfl⟩
 have hpf:Bin.pFn (kFn x).2=((Bin.pBytes y).1,(Bin.pBytes y).2&&t):=by unfold Bin.pFn;rw[hpc]
 rw[hpf]at hL⊢
 clear hpf
 have HPC:=hid hpc
 clear hpc
 have HX:=hid (Bx.new h #[.int .i64 x.ty,.slice x.lo.A x.lo.zs.length x.lo.c,.slice x.bo.A (len x.bo.f) x.bo.c] 55 _ rfl rfl)
 have HWa:=hid (h.alloc (.cells #[.int .i64 x.ty,.slice x.lo.A x.lo.zs.length x.lo.c,.slice x.bo.A (len x.bo.f) x.bo.c] 55))
 have HKa:Hid (Kw W w v (w.alloc (.cells #[.int .i64 x.ty,.slice x.lo.A x.lo.zs.length x.lo.c,.slice x.bo.A (len x.bo.f) x.bo.c] 55)) v):=hid (Kw.refl_.alloc _)
 have HBa:=hid (hB.alloc (.cells #[.int .i64 x.ty,.slice x.lo.A x.lo.zs.length x.lo.c,.slice x.bo.A (len x.bo.f) x.bo.c] 55))
 have HL:=hid hL
 have HXo:=hid hx
 have HN:=hid hN
 have qb:=hB.cell 0 _ rfl
 have qn:=hB.lt
 have HLT:Hid (W<w.heap.size/\∀g,v.ownBlock=some g->g<w.heap.size):=hid ⟨h.lt,λg hg=>(h.ob.own_lt hg).2⟩
 clear h hB hL hx hN
 unfold WrP
 go_enter func104,ntmps104
 go_wp2_with fail
 obtain⟨W1,hW1⟩:∃W1:World,W1=(w.alloc (.cells #[.int .i64 x.ty,.slice x.lo.A x.lo.zs.length x.lo.c,.slice x.bo.A (len x.bo.f) x.bo.c] 55)).drew:=⟨_,rfl⟩
 have HW1:Hid (Wr W w0 W1 v u bs bad):=hid (by rw[hW1];exact HWa.out.drewN 1)
 have HK1:Hid (Kw W w v W1 v):=hid (by rw[hW1];exact HKa.out.drewN 1)
 have HB1:Hid (Bx W W1 v B0 [pW W]):=hid (by rw[hW1];exact⟨HBa.out.cell,HBa.out.ne,HBa.out.nv,HBa.out.lt⟩)
 have HX1:Hid (Bx W W1 v w.heap.size [.int .i64 x.ty,.slice x.lo.A x.lo.zs.length x.lo.c,.slice x.bo.A (len x.bo.f) x.bo.c]):=hid (by rw[hW1];exact⟨HX.out.cell,HX.out.ne,HX.out.nv,HX.out.lt⟩)
 refine wp_region_held_drew (S:=λw'=>w'.cell? ⟨B0,0,none⟩=some (pW W)) (by kernel_rfl) (by rw[<-hW1];exact HB1.out.cell 0 _ rfl) (λhHeld=>?_)
 rw[<-hW1]at hHeld⊢
 clear hW1 HWa HKa HBa HX qb
 refine rtk 0 3 ?_
 refine rtk 1 4 ?_
 refine rtk 2 5 ?_
 refine rcl 3 λK hK=>?_
 go_simp
 have hcl:y.length<=100000000:=by have:=HL.out;simp only[Bin.pBytes,Bin.cat,zz]at this;omega
 refine(part_any 107 (λ_ _=>rfl) #[.pointer (some ⟨B0,0,none⟩),.pointer (some ⟨w.heap.size,0,none⟩)] (y,t) HW1.out (λw' hw' hk'=>by rw[<-HPC.out];exact co1_any x HXo.out HN.out hwt hs hw' ((zm (hk'.keep _ HB1.out.lt HB1.out.ne (by simp[Value.ownBlock])).1).trans (HB1.out.cell 0 _ rfl)) ((zm (hk'.keep _ HX1.out.lt HX1.out.ne (by simp[Value.ownBlock])).1).trans (HX1.out.cell 0 _ rfl)) ((zm (hk'.keep _ HX1.out.lt HX1.out.ne (by simp[Value.ownBlock])).1).trans (HX1.out.cell 1 _ rfl)) ((zm (hk'.keep _ HX1.out.lt HX1.out.ne (by simp[Value.ownBlock])).1).trans (HX1.out.cell 2 _ rfl)) (by rw[HPC.out];simpa using hcl))).mono ?_
 unfold PartP
 rintro e w2 ⟨A2,c2,rfl,-,-,hn2,hw2,hk2⟩
 have hszl:w.heap.size<W1.heap.size:=HX1.out.lt
 have HL2:=hid (lst_part (w0:=w0) (u:=u) (bs:=bs) (bad:=bad) (v:=v) (W:=W) HW1.out.lt (λg hg=>(HW1.out.ob.own_lt hg).2) hn2)
 have HW2:=hid hw2
 have HK2:Hid (Kw W w v w2 v):=hid (HK1.out.trans ⟨λm hm hW hv=>⟨(hk2.keep m hm hW (by simp[Value.ownBlock])).1,hv⟩,hk2.size⟩)
 have qb2:=(zm (hk2.keep _ HB1.out.lt HB1.out.ne (by simp[Value.ownBlock])).1).trans (HB1.out.cell 0 _ rfl)
 have HBlt:Hid (B0<W1.heap.size/\B0≠W/\v.ownBlock≠some B0/\W1.heap.size<=w2.heap.size):=hid ⟨HB1.out.lt,HB1.out.ne,HB1.out.nv,hk2.size⟩
 clear hn2 hw2 hk2
 clear hcl
 go_wp2_with fail
 refine rbk hK qb2 λhHeld=>?_;clear hK K
 refine rcl 4 λK hK=>?_
 go_simp
 refine(wbytes_any y A2 c2 HW2.out HL2.out (by have:=HL.out;exact this)).mono ?_
 unfold WrP
 rintro e w3 ⟨rfl,v3,hw3,hk3⟩
 have HW3:=hid hw3
 have HK3:=hid (HK2.out.trans hk3)
 have qb3:=(zm (hk3.keep B0 (zj HBlt.out.1 HBlt.out.2.2.2) HBlt.out.2.1 HBlt.out.2.2.1).1).trans qb2
 clear hw3 hk3
 go_wp2_with fail
 refine rbk hK qb3 λhHeld=>?_;clear hK K
 refine wpAnyH_done (by kernel_rfl) ?_ _
 go_wp2_with fail
 go_end0
 exact⟨rfl,v3,HW3.out.eq rfl (by cases bad<;>cases t<;>simp),HK3.out⟩
end Go.Proofs.YteoijlfipmaoeaaGreatDoor
namespace Go.Proofs.YteoijlfipmaoeaaGreatDoor
open Go.RowKit Trx
open Go.Proofs.Tryz
def CpW(lo W:Nat)(w:World)(u:Value):Nat->Prop:=λb=>lo<=b/\b<w.heap.size/\b≠W/\u.ownBlock≠some b
structure Ws(W:Nat)(w0 w:World)(u:Value)(ss:List Sc)(bad:Bool):Prop where
 wr:Wr W w0 w (.slice none 0 0) u [] bad
 ow:OwnK w0.heap.size w0 w 82 3 u (ss.map Sc.cells)
 uW:u.ownBlock≠some W
 new:∀s∈ss,NewSc (CpW w0.heap.size W w u) w s
section
variable{W:Nat}{w0 w w':World}{u u':Value}{ss:List Sc}{bad:Bool}
theorem OwnK.kw{e:TypeId}{k:Nat}{rs:List (List Value)}(h:OwnK w0.heap.size w0 w e k u rs)(hW:u.ownBlock≠some W)(hb:Below w0.heap.size w0 w')(hk:Kw W w (.slice none 0 0) w' (.slice none 0 0)):OwnK w0.heap.size w0 w' e k u rs:=by
 refine⟨⟨h.row.1,?_⟩,h.len,hb,hb.size⟩
 rcases h.row.2 with h3|⟨g,cap,cur,e',hg,hcur,hrest⟩
 ·exact .inl h3
 ·
  refine .inr ⟨g,cap,cur,e',hg,?_,hrest⟩
  have hgl:g<w.heap.size:=(h.own_lt (by rw[e'];rfl)).2
  rw[(hk.keep g hgl (λe2=>hW (by rw[e',<-e2];rfl)) (by simp[Value.ownBlock])).1]
  exact hcur
theorem Ws.later(h:Ws W w0 w u ss bad)(hb:Below w.heap.size w w'):Ws W w0 w' u ss bad:=
 ⟨h.wr.later hb,h.ow.later hb,h.uW,λs hs=>NewSc.move (S':=CpW w0.heap.size W w' u) (h.new s hs) (agr_of_heap λb hb2=>hb.block b hb2.2.1) (λb hb2=>⟨hb2.1,zj hb2.2.1 hb.size,hb2.2.2⟩) hb.size⟩
theorem Ws.alloc(h:Ws W w0 w u ss bad)(o:Obj):Ws W w0 (w.alloc o) u ss bad:=h.later ((zx _ _).alloc (zq _) o)
theorem Ws.push{w2 w4:World}{bad2:Bool}{nb:List UInt8}{A:Option Addr}{c:Nat}{id:Int}(h:Ws W w0 w u ss bad)(h2:Wr W w0 w2 (.slice none 0 0) u [] bad2)(hk:Kw W w (.slice none 0 0) w2 (.slice none 0 0))(hid:inI id)(hl:nb.length<=c)(hm:c<=maxLen)
  (hn:NewS (Win w.heap.size w2) w2 w2.heap.size A (u8s nb)) (t:TypeId) (ho:OwnK w0.heap.size w0 w4 82 3 u' ((ss++[(⟨id,0,A,c,nb⟩:Sc)]).map Sc.cells)) (hk4:∀m,m<(w2.alloc (.cells #[.int .i64 id,.int .i64 0,.slice A nb.length c] t)).heap.size->u.ownBlock≠some m->w4.heap[m]? =(w2.alloc (.cells #[.int .i64 id,.int .i64 0,.slice A nb.length c] t)).heap[m]?/\u'.ownBlock≠some m) (hs4:w2.heap.size<w4.heap.size):
  w4.cell? ⟨W,1,none⟩=some u/\w4.frozen? ⟨W,1,none⟩=false/\Ws W w0 (w4.setCell ⟨W,1,none⟩ u') u' (ss++[⟨id,0,A,c,nb⟩]) bad2/\Kw W w u (w4.setCell ⟨W,1,none⟩ u') u':=by
 have hWl:=h2.lt
 have hsz:(w4.setCell ⟨W,1,none⟩ u').heap.size=w4.heap.size:=by simp[World.setCell]
 have kold:∀m,m<w2.heap.size->u.ownBlock≠some m->w4.heap[m]? =w2.heap[m]?/\u'.ownBlock≠some m:=by
  intro m hm hu
  obtain⟨e1,e2⟩:=hk4 m (by simp;omega) hu
  exact⟨e1.trans (Below.heap_alloc _ _ _ hm),e2⟩
 have kW:=kold W hWl h.uW
 have hc:∀i,w4.cell? ⟨W,i,none⟩=w2.cell? ⟨W,i,none⟩:=λi=>zm kW.1
 have kall:∀m,m<w.heap.size->m≠W->u.ownBlock≠some m->(w4.setCell ⟨W,1,none⟩ u').heap[m]? =w.heap[m]?/\u'.ownBlock≠some m:=by
  intro m hm hW hu
  obtain⟨e1,e2⟩:=kold m (zj hm hk.size) hu
  exact⟨(qa _ _ _ _ hW).trans (e1.trans (hk.keep m hm hW (by simp[Value.ownBlock])).1),e2⟩
 refine⟨(hc 1).trans h2.c1,(qv kW.1).trans (h2.fr 1),⟨⟨h.wr.hW,(zk _ _ _ _ (by simp)).trans ((hc 0).trans h2.c0),ze _ _ _ ((hc 1).trans h2.c1),(zk _ _ _ _ (by simp)).trans ((hc 2).trans h2.c2),
  λi=>(za _ _ _ _).trans ((qv kW.1).trans (h2.fr i)),OwnK.nil_ _ _ _ _ (ho.below.setCell h.wr.hW _) (by have:=ho.le;rw[hsz];exact this),by simp[Value.ownBlock]⟩,OwnK.setOther ho h.wr.hW kW.2 1 u',kW.2,?_⟩,⟨kall,by rw[hsz];have:=hk.size;omega⟩⟩
 intro s hs
 rcases List.mem_append.1 hs with h5|h5
 ·refine(h.new s h5).move (agr_of_heap λb hb=>(kall b hb.2.1 hb.2.2.1 hb.2.2.2).1) (λb hb=>⟨hb.1,by rw[hsz];have:=hb.2.1;have:=hk.size;omega,hb.2.2.1,(kall b hb.2.1 hb.2.2.1 hb.2.2.2).2⟩) (by rw[hsz];have:=hk.size;omega)
 ·
  simp at h5
  subst h5
  have hun:∀b,w.heap.size<=b->u.ownBlock≠some b:=λb hb e=>by have:=(h.ow.own_lt e).2;omega
  have hWw:=h.wr.lt
  intro w' ha
  refine⟨hid,(show inI 0 by unfold inI;omega),?_,hl,hm⟩
  have:=hn w' (λb o hb=>by
   rw[ha b o ⟨by have:=hb.1;have:=h.wr.below.size;omega,by rw[hsz];have:=hb.2;omega,by have:=hb.1;omega,(kold b hb.2 (hun b hb.1)).2⟩,zk _ _ _ _ (by have:=hb.1;intro e;injection e with e;omega)]
   exact zm (kold b hb.2 (hun b hb.1)).1)
  exact this.more (by rw[hsz];omega)
end
def SecP(W:Nat)(w0 w:World)(u:Value)(ss:List Sc)(bad:Bool)(keys:List (Int×List UInt8))(ok:Bool):Ending->World->Prop:=λe w'=>e=.returned (.tuple #[])/\∃u' ns,Ws W w0 w' u' (ss++ns) (bad || !ok)/\ns.map Sc.key=keys/\Kw W w u w' u'
theorem section_any(k:Nat)(hk:∀(a:Array Value) (w:World),Sem.run prog (callFunc k a) w=.ok (.enter k a) w)(caps:Array Value)(pc:Bin.Pc)(id:Int)(hid:inI id){W:Nat}{w0 w:World}{u:Value}{ss:List Sc}{bad:Bool}(h:Ws W w0 w u ss bad)(hss:ss.length<=1000)
  (H:∀w',Wr W w0 w' (.slice none 0 0) u [] bad->Kw W w (.slice none 0 0) w' (.slice none 0 0)->Calls prog k caps w' (WrP W w0 w' (.slice none 0 0) u [] bad pc)):
  Calls prog 98 #[pW W,.int .i64 id,.func (.func k) #[] caps] w (SecP W w0 w u ss bad [(id,pc.1)] pc.2):=by
 obtain⟨nb,t⟩:=pc
 obtain⟨W1,hW1⟩:∃W1:World,W1=w.drew:=⟨_,rfl⟩
 have hWS:Ws W w0 W1 u ss bad:=by rw[hW1];exact h.later (zx _ _).drew
 have hKd:Kw W w (.slice none 0 0) W1 (.slice none 0 0):=by rw[hW1];exact Kw.refl_.drewN 1
 have HKu:Hid (Kw W w u W1 u):=Lib.hid (by rw[hW1];exact Kw.refl_.drewN 1)
 have HP:=Lib.hid (part_any k hk caps (nb,t) hWS.wr (λw' hw hk'=>H w' hw (hKd.trans hk')))
 have HS:=Lib.hid hWS
 obtain⟨Au,cu,hu,-⟩:=hWS.ow.form
 rw[zd]at hu
 have c1:=hWS.wr.c1
 rw[hu]at c1
 have HU:=Lib.hid hu
 clear h H hWS hKd hu
 unfold PartP at HP
 unfold SecP
 go_enter func98,ntmps98
 go_wp2_with fail
 refine wp_region_held_drew (S:=λ_=>True) (by kernel_rfl) trivial (λhHeld=>?_)
 rw[<-hW1]
 clear hW1
 refine rtk 0 6 ?_
 refine rtk 1 7 ?_
 refine rtk 2 8 ?_
 refine rtk 3 9 ?_
 refine rtk 5 11 ?_
 refine rtk 6 12 ?_
 refine rtk 7 13 ?_
 refine wpAnyH_ready (rs:=[4,8]) (by kernel_rfl) (by simp) ?_
 refine AllReadyH.cons rfl (λK hK=>?_) (AllReadyH.cons rfl (λK hK=>?_) AllReadyH.nil)
 ·
  go_simp
  refine rbk hK trivial λhHeld=>?_;clear hK K
  refine rcl 8 λK hK=>?_
  go_simp
  refine HP.out.mono ?_
  rintro e w3 ⟨A3,c3,rfl,hl3,hm3,hn3,hw3,hk3⟩
  have HW3:=Lib.hid hw3
  have HK3:=Lib.hid hk3
  have HN3:=Lib.hid hn3
  have HL3:=Lib.hid (show nb.length<=c3 from hl3)
  have HM3:=Lib.hid hm3
  have d1:=hw3.c1
  rw[HU.out]at d1
  clear hl3 hm3 hn3 hw3 hk3
  go_wp2_with fail
  refine rbk hK trivial λhHeld=>?_;clear hK K
  refine rtk 9 15 ?_
  refine rcl 10 λK hK=>?_
  go_simp
  refine rbk hK trivial λhHeld=>?_;clear hK K
  refine rcl 11 λK hK=>?_
  refine wanted_yes' (by rfl) ?_
  refine op_push (.tmp 10) (.tmp 16) _ rfl 40 underlying67 elem_sec (by decide) (Sc.cells ⟨id,0,A3,c3,nb⟩) 1 w3.heap.size rfl (by rw[<-HU.out];exact(HS.out.ow.kw HS.out.uW HW3.out.below HK3.out).later ((zx _ _).alloc (zq _) _)) rfl rfl (λk u hk=>by rw[zv _ _ _ _ rfl];simpa[Sc.cells]using hk) (Sc.one ⟨id,0,A3,c3,nb⟩) (by rw[zd];omega) (by rw[zd];unfold maxLen;omega) ?_
  intro v6 w6 ho6 hk6 hs6
  obtain⟨g1,gf,hws,hkw⟩:=HS.out.push (nb:=nb) HW3.out HK3.out hid HL3.out HM3.out HN3.out 82 (by rw[qd];exact ho6) (by rw[HU.out];exact hk6) (by have:=hs6;simp at this;omega)
  obtain⟨A6,c6,e6,-⟩:=ho6.form
  rw[zz,zd,qg]at e6
  have HWS:=Lib.hid hws
  have HKW:=Lib.hid (HKu.out.trans hkw)
  rw[HU.out]at g1
  clear ho6 hk6 hs6 hws hkw
  subst e6
  refine rbk hK trivial λhHeld=>?_;clear hK K
  refine rtk 12 18 ?_
  refine rtk 13 19 ?_
  refine rcl 14 λK hK=>?_
  go_simp
  refine rbk hK trivial λhHeld=>?_;clear hK K
  refine wpAnyH_done (by kernel_rfl) ?_ _
  go_wp2_with fail
  go_end0
  exact⟨rfl,_,[⟨id,0,A3,c3,nb⟩],HWS.out,rfl,HKW.out⟩
 ·
  go_simp
  refine HP.out.mono ?_
  rintro e w3 ⟨A3,c3,rfl,hl3,hm3,hn3,hw3,hk3⟩
  have HW3:=Lib.hid hw3
  have HK3:=Lib.hid hk3
  have HN3:=Lib.hid hn3
  have HL3:=Lib.hid (show nb.length<=c3 from hl3)
  have HM3:=Lib.hid hm3
  have d1:=hw3.c1
  rw[HU.out]at d1
  clear hl3 hm3 hn3 hw3 hk3
  go_wp2_with fail
  refine rbk hK trivial λhHeld=>?_;clear hK K
  refine rtk 9 15 ?_
  refine wpAnyH_ready (rs:=[4,10]) (by kernel_rfl) (by simp) ?_
  refine AllReadyH.cons rfl (λK hK=>?_) (AllReadyH.cons rfl (λK hK=>?_) AllReadyH.nil)
  ·
   go_simp
   refine rbk hK trivial λhHeld=>?_;clear hK K
   refine rcl 10 λK hK=>?_
   go_simp
   refine rbk hK trivial λhHeld=>?_;clear hK K
   refine rcl 11 λK hK=>?_
   refine wanted_yes' (by rfl) ?_
   refine op_push (.tmp 10) (.tmp 16) _ rfl 40 underlying67 elem_sec (by decide) (Sc.cells ⟨id,0,A3,c3,nb⟩) 1 w3.heap.size rfl (by rw[<-HU.out];exact(HS.out.ow.kw HS.out.uW HW3.out.below HK3.out).later ((zx _ _).alloc (zq _) _)) rfl rfl (λk u hk=>by rw[zv _ _ _ _ rfl];simpa[Sc.cells]using hk) (Sc.one ⟨id,0,A3,c3,nb⟩) (by rw[zd];omega) (by rw[zd];unfold maxLen;omega) ?_
   intro v6 w6 ho6 hk6 hs6
   obtain⟨g1,gf,hws,hkw⟩:=HS.out.push (nb:=nb) HW3.out HK3.out hid HL3.out HM3.out HN3.out 82 (by rw[qd];exact ho6) (by rw[HU.out];exact hk6) (by have:=hs6;simp at this;omega)
   obtain⟨A6,c6,e6,-⟩:=ho6.form
   rw[zz,zd,qg]at e6
   have HWS:=Lib.hid hws
   have HKW:=Lib.hid (HKu.out.trans hkw)
   rw[HU.out]at g1
   clear ho6 hk6 hs6 hws hkw
   subst e6
   refine rbk hK trivial λhHeld=>?_;clear hK K
   refine rtk 12 18 ?_
   refine rtk 13 19 ?_
   refine rcl 14 λK hK=>?_
   go_simp
   refine rbk hK trivial λhHeld=>?_;clear hK K
   refine wpAnyH_done (by kernel_rfl) ?_ _
   go_wp2_with fail
   go_end0
   exact⟨rfl,_,[⟨id,0,A3,c3,nb⟩],HWS.out,rfl,HKW.out⟩
  ·
   go_simp
   refine rbk hK trivial λhHeld=>?_;clear hK K
   have ltW:=HW3.out.lt
   refine rcl 4 λK hK=>?_
   go_simp
   refine rbk hK trivial λhHeld=>?_;clear hK K
   refine rcl 11 λK hK=>?_
   refine wanted_yes' (by rfl) ?_
   refine op_push (.tmp 10) (.tmp 16) _ rfl 40 underlying67 elem_sec (by decide) (Sc.cells ⟨id,0,A3,c3,nb⟩) 1 w3.heap.size rfl (by rw[<-HU.out];exact(HS.out.ow.kw HS.out.uW HW3.out.below HK3.out).later ((zx _ _).alloc (zq _) _)) rfl rfl (λk u hk=>by rw[zv _ _ _ _ rfl];simpa[Sc.cells]using hk) (Sc.one ⟨id,0,A3,c3,nb⟩) (by rw[zd];omega) (by rw[zd];unfold maxLen;omega) ?_
   intro v6 w6 ho6 hk6 hs6
   obtain⟨g1,gf,hws,hkw⟩:=HS.out.push (nb:=nb) HW3.out HK3.out hid HL3.out HM3.out HN3.out 82 (by rw[qd];exact ho6) (by rw[HU.out];exact hk6) (by have:=hs6;simp at this;omega)
   obtain⟨A6,c6,e6,-⟩:=ho6.form
   rw[zz,zd,qg]at e6
   have HWS:=Lib.hid hws
   have HKW:=Lib.hid (HKu.out.trans hkw)
   rw[HU.out]at g1
   clear ho6 hk6 hs6 hws hkw
   subst e6
   refine rbk hK trivial λhHeld=>?_;clear hK K
   refine rtk 12 18 ?_
   refine rtk 13 19 ?_
   refine rcl 14 λK hK=>?_
   go_simp
   refine rbk hK trivial λhHeld=>?_;clear hK K
   refine wpAnyH_done (by kernel_rfl) ?_ _
   go_wp2_with fail
   go_end0
   exact⟨rfl,_,[⟨id,0,A3,c3,nb⟩],HWS.out,rfl,HKW.out⟩
inductive QIn:{β:Type}->Nat->Nat->Nat->Nat->Nat->(β->List Value)->(β->Value)->TypeId->TypeId->Prop
 |Ty:QIn 74 160 161 75 2 (λx:Ty=>((Ty.cells x):List Value)) (λx=>.agg #[.slice x.p.A x.p.zs.length x.p.c,.slice x.r.A x.r.zs.length x.r.c]) 22 142
 |Im:QIn 78 163 164 79 8 (λx:Im=>((Im.cells x):List Value)) (λx=>.agg #[.string x.md,.string x.nm,.int .i64 x.kd,.int .i64 x.ty,.bool x.mu,.int .i64 x.lm.mn,.int .i64 x.lm.mx,.bool x.lm.hs]) 23 145
 |Ft:QIn 82 167 168 83 3 (λx:Fn=>((Fn.cells x):List Value)) (λx=>.agg #[.int .i64 x.ty,.slice x.lo.A x.lo.zs.length x.lo.c,.slice x.bo.A (len x.bo.f) x.bo.c]) 24 148
 |Ta:QIn 85 169 170 86 3 (λx:Lm=>((Lm.cells x):List Value)) (λx=>.agg #[.int .i64 x.mn,.int .i64 x.mx,.bool x.hs]) 25 150
 |Me:QIn 85 169 170 88 3 (λx:Lm=>((Lm.cells x):List Value)) (λx=>.agg #[.int .i64 x.mn,.int .i64 x.mx,.bool x.hs]) 25 150
 |Gl:QIn 90 171 172 91 11 (λx:Gl=>((Gl.cells x):List Value)) (λx=>.agg #[.int .i64 x.ty,.bool x.mu,.int .i64 x.i.n.op,.int .i64 x.i.n.a,.int .i64 x.i.n.b,.int .u64 x.i.n.v,.int .i64 x.i.n.t,.slice x.i.p.AL x.i.n.L.length x.i.p.cL,.slice x.i.p.Ab (len x.i.n.body) x.i.p.cb,.slice x.i.p.Ae (len x.i.n.els) x.i.p.ce,.bool x.i.n.he]) 26 154
 |Ex:QIn 95 174 175 96 3 (λx:Ex=>((Ex.cells x):List Value)) (λx=>.agg #[.string x.nm,.int .i64 x.kd,.int .i64 x.ix]) 27 156
 |El:QIn 100 176 177 101 10 (λx:El=>((El.cells x):List Value)) (λx=>.agg #[.int .i64 x.i.n.op,.int .i64 x.i.n.a,.int .i64 x.i.n.b,.int .u64 x.i.n.v,.int .i64 x.i.n.t,.slice x.i.p.AL x.i.n.L.length x.i.p.cL,.slice x.i.p.Ab (len x.i.n.body) x.i.p.cb,.slice x.i.p.Ae (len x.i.n.els) x.i.p.ce,.bool x.i.n.he,.slice x.fs.A x.fs.zs.length x.fs.c]) 28 159
 |Co:QIn 82 167 168 104 3 (λx:Fn=>((Fn.cells x):List Value)) (λx=>.agg #[.int .i64 x.ty,.slice x.lo.A x.lo.zs.length x.lo.c,.slice x.bo.A (len x.bo.f) x.bo.c]) 24 148
 |Da:QIn 109 183 184 110 10 (λx:Da=>((Da.cells x):List Value)) (λx=>.agg #[.int .i64 x.i.n.op,.int .i64 x.i.n.a,.int .i64 x.i.n.b,.int .u64 x.i.n.v,.int .i64 x.i.n.t,.slice x.i.p.AL x.i.n.L.length x.i.p.cL,.slice x.i.p.Ab (len x.i.n.body) x.i.p.cb,.slice x.i.p.Ae (len x.i.n.els) x.i.p.ce,.bool x.i.n.he,.slice x.bs.A x.bs.bs.length x.bs.c]) 29 163
theorem QIn.p{β:Type}{f f1 fl f2 k:Nat}{cells:β->List Value}{arg:β->Value}{tl tf:TypeId}(hI:QIn f f1 fl f2 k cells arg tl tf):PIn fl f2 k cells arg:=by
 cases hI
 ·exact .Ty
 ·exact .Im
 ·exact .Ft
 ·exact .Ta
 ·exact .Me
 ·exact .Gl
 ·exact .Ex
 ·exact .El
 ·exact .Co
 ·exact .Da
theorem QIn.run{β:Type}{f f1 fl f2 k:Nat}{cells:β->List Value}{arg:β->Value}{tl tf:TypeId}(hI:QIn f f1 fl f2 k cells arg tl tf)(a:Array Value)(w:World):Sem.run prog (callFunc f1 a) w=.ok (.enter f1 a) w:=by
 cases hI<;>rfl
theorem putSec1_any{β:Type}{f f1 fl f2 k:Nat}{cells:β->List Value}{arg:β->Value}{tl tf:TypeId}(hI:QIn f f1 fl f2 k cells arg tl tf)(p:β->Bin.Pc){W B0 n1 n2 n3:Nat}{w0 w:World}{v u:Value}{bs:List UInt8}{bad:Bool}(l:List β)(A:Option Addr)(c:Nat)(hm:l.length<=64)(h:Wr W w0 w v u bs bad)(hB:Bx W w v B0 [pW W])
  (hr:RowsAt w0 w0.heap.size A k (l.map cells)) (q1:w.cell? ⟨n1,0,none⟩=some (pW W)) (q2:w.cell? ⟨n2,0,none⟩=some (.slice A l.length c)) (q3:w.cell? ⟨n3,0,none⟩=some (.func (.func f2) #[] #[.pointer (some ⟨B0,0,none⟩)])) (hL:bs.length+(Bin.pList p l).1.length<=100000000) (H:∀x∈l,∀(w':World) (v':Value) (bs':List UInt8) (bad':Bool),Wr W w0 w' v' u bs' bad'->Bx W w' v' B0 [pW W]->bs'.length+(p x).1.length<=100000000->Calls prog f2 #[arg x,.pointer (some ⟨B0,0,none⟩)] w' (WrP W w0 w' v' u bs' bad' (p x))):
  Calls prog f1 #[.pointer (some ⟨n1,0,none⟩),.pointer (some ⟨n2,0,none⟩),.pointer (some ⟨n3,0,none⟩)] w (WrP W w0 w v u bs bad (Bin.pList p l)):=by
 have HP:=Lib.hid (wlist_any hI.p p l A c (by omega) h hB (h.lst hr) hL H)
 clear h hB hr hL H
 unfold WrP at HP⊢
 cases hI
 all_goals
  first|go_enter func160,ntmps160|go_enter func163,ntmps163|go_enter func167,ntmps167|go_enter func169,ntmps169|go_enter func171,ntmps171|go_enter func174,ntmps174|go_enter func176,ntmps176|go_enter func183,ntmps183
  go_wp2_with(first|(go_at_call 161;(with_reducible refine HP.out.mono ?_);rintro e w1 ⟨rfl,v1,hw1,hk1⟩;have HW1:=Lib.hid hw1;have HK1:=Lib.hid hk1;clear hw1 hk1)|(go_at_call 164;(with_reducible refine HP.out.mono ?_);rintro e w1 ⟨rfl,v1,hw1,hk1⟩;have HW1:=Lib.hid hw1;have HK1:=Lib.hid hk1;clear hw1 hk1)|(go_at_call 168;(with_reducible refine HP.out.mono ?_);rintro e w1 ⟨rfl,v1,hw1,hk1⟩;have HW1:=Lib.hid hw1;have HK1:=Lib.hid hk1;clear hw1 hk1)|(go_at_call 170;(with_reducible refine HP.out.mono ?_);rintro e w1 ⟨rfl,v1,hw1,hk1⟩;have HW1:=Lib.hid hw1;have HK1:=Lib.hid hk1;clear hw1 hk1)|(go_at_call 172;(with_reducible refine HP.out.mono ?_);rintro e w1 ⟨rfl,v1,hw1,hk1⟩;have HW1:=Lib.hid hw1;have HK1:=Lib.hid hk1;clear hw1 hk1)|(go_at_call 175;(with_reducible refine HP.out.mono ?_);rintro e w1 ⟨rfl,v1,hw1,hk1⟩;have HW1:=Lib.hid hw1;have HK1:=Lib.hid hk1;clear hw1 hk1)|(go_at_call 177;(with_reducible refine HP.out.mono ?_);rintro e w1 ⟨rfl,v1,hw1,hk1⟩;have HW1:=Lib.hid hw1;have HK1:=Lib.hid hk1;clear hw1 hk1)|(go_at_call 184;(with_reducible refine HP.out.mono ?_);rintro e w1 ⟨rfl,v1,hw1,hk1⟩;have HW1:=Lib.hid hw1;have HK1:=Lib.hid hk1;clear hw1 hk1))
  go_end0
  exact⟨rfl,v1,HW1.out,HK1.out⟩
theorem putSec_any{β:Type}{f f1 fl f2 k:Nat}{cells:β->List Value}{arg:β->Value}{tl tf:TypeId}(hI:QIn f f1 fl f2 k cells arg tl tf)(p:β->Bin.Pc){W B0:Nat}{w0 w:World}{u:Value}{ss:List Sc}{bad:Bool}(id:Int)(hid:inI id)(l:List β)(A:Option Addr)(c:Nat)(hm:l.length<=64)(h:Ws W w0 w u ss bad)(hss:ss.length<=1000)(hB:Bx W w u B0 [pW W])
  (hr:RowsAt w0 w0.heap.size A k (l.map cells)) (hL:(Bin.pList p l).1.length<=100000000) (H:∀x∈l,∀(w':World) (v':Value) (bs':List UInt8) (bad':Bool),Wr W w0 w' v' u bs' bad'->Bx W w' v' B0 [pW W]->bs'.length+(p x).1.length<=100000000->Calls prog f2 #[arg x,.pointer (some ⟨B0,0,none⟩)] w' (WrP W w0 w' v' u bs' bad' (p x))):
  Calls prog f #[pW W,.int .i64 id,.slice A l.length c,.func (.func f2) #[] #[.pointer (some ⟨B0,0,none⟩)]] w (SecP W w0 w u ss bad (Bin.opt id p l) (Bin.pList p l).2):=by
 have hK3:Kw W w u (((w.alloc (.cells #[pW W] 66)).alloc (.cells #[.slice A l.length c] tl)).alloc (.cells #[.func (.func f2) #[] #[.pointer (some ⟨B0,0,none⟩)]] tf)) u:=((Kw.refl_.alloc _).alloc _).alloc _
 have hW3:=((h.alloc (.cells #[pW W] 66)).alloc (.cells #[.slice A l.length c] tl)).alloc (.cells #[.func (.func f2) #[] #[.pointer (some ⟨B0,0,none⟩)]] tf)
 have hWl:=h.wr.lt
 by_cases h0:l.length=0
 ·
  have hl:l=[]:=zc h0
  have HW:=Lib.hid hW3
  have HK:=Lib.hid hK3
  subst hl
  have e1:Bin.opt id p []=[]:=rfl
  have e2:(Bin.pList p []).2=true:=rfl
  rw[e1,e2]
  clear h hB hr hL H hW3 hK3 e1 e2
  unfold SecP
  cases hI
  all_goals
   first|go_enter func74,ntmps74|go_enter func78,ntmps78|go_enter func82,ntmps82|go_enter func85,ntmps85|go_enter func90,ntmps90|go_enter func95,ntmps95|go_enter func100,ntmps100|go_enter func109,ntmps109
   go_wp2_with fail
   go_end0
   exact⟨rfl,u,[],by simpa using HW.out,rfl,HK.out⟩
 ·
  have e1:Bin.opt id p l=[(id,(Bin.pList p l).1)]:=by
   unfold Bin.opt
   rw[if_neg (by intro e;exact h0 (by simpa using e))]
  rw[e1]
  have hpos:(0:Int)<l.length:=by omega
  have HS:=Lib.hid (section_any f1 hI.run #[.pointer (some ⟨w.heap.size,0,none⟩),.pointer (some ⟨w.heap.size+1,0,none⟩),.pointer (some ⟨w.heap.size+1+1,0,none⟩)] (Bin.pList p l) id hid hW3 hss (λw' hw hk=>by
   have hc:∀b o x,b<(((w.alloc (.cells #[pW W] 66)).alloc (.cells #[.slice A l.length c] tl)).alloc (.cells #[.func (.func f2) #[] #[.pointer (some ⟨B0,0,none⟩)]] tf)).heap.size->b≠W->(((w.alloc (.cells #[pW W] 66)).alloc (.cells #[.slice A l.length c] tl)).alloc (.cells #[.func (.func f2) #[] #[.pointer (some ⟨B0,0,none⟩)]] tf)).cell? ⟨b,o,none⟩=some x->w'.cell? ⟨b,o,none⟩=some x:=λb o x hb hne hx=>(zm (hk.keep b hb hne (by simp[Value.ownBlock])).1).trans hx
   have hsz:(((w.alloc (.cells #[pW W] 66)).alloc (.cells #[.slice A l.length c] tl)).alloc (.cells #[.func (.func f2) #[] #[.pointer (some ⟨B0,0,none⟩)]] tf)).heap.size=w.heap.size+3:=by simp
   refine putSec1_any hI p l A c hm hw ⟨λi x hi=>?_,hB.ne,by simp[Value.ownBlock],by have:=hk.size;have:=hB.lt;omega⟩ hr (hc _ _ _ (by omega) (by omega) ?_) (hc _ _ _ (by omega) (by omega) ?_) (hc _ _ _ (by omega) (by omega) ?_) (by simpa using hL) H
   ·
    refine hc _ _ _ (by have:=hB.lt;omega) hB.ne ?_
    rw[zg _ _ _ (by have:=hB.lt;simp;omega),zg _ _ _ (by have:=hB.lt;simp;omega),zg _ _ _ hB.lt]
    exact hB.cell i x hi
   ·rw[zg _ _ _ (by simp;omega),zg _ _ _ (by simp),zv _ _ _ _ rfl];rfl
   ·rw[zg _ _ _ (by simp),zv _ _ _ _ (by simp)];rfl
   ·rw[zv _ _ _ _ (by simp)];rfl))
  have HK:=Lib.hid hK3
  clear h hB hr hL H hW3 hK3 e1
  unfold SecP at HS⊢
  cases hI
  all_goals
   first|go_enter func74,ntmps74|go_enter func78,ntmps78|go_enter func82,ntmps82|go_enter func85,ntmps85|go_enter func90,ntmps90|go_enter func95,ntmps95|go_enter func100,ntmps100|go_enter func109,ntmps109
   go_wp2_with(first|(go_at_call 98;(with_reducible refine HS.out.mono ?_);rintro e w1 ⟨rfl,u1,ns,hw1,hkey,hk1⟩;have HW1:=Lib.hid hw1;have HK1:=Lib.hid (HK.out.trans hk1);have HKy:=Lib.hid hkey;clear hw1 hk1 hkey))
   go_end0
   exact⟨rfl,u1,ns,HW1.out,HKy.out,HK1.out⟩
end Go.Proofs.YteoijlfipmaoeaaGreatDoor
