import Derived.Test.YteoijlfipmaoeaaGreatDoorPJ33
set_option linter.unusedVariables false
set_option linter.unusedSimpArgs false
set_option maxRecDepth 100000
set_option maxHeartbeats 8000000
namespace Go.Proofs.YteoijlfipmaoeaaGreatDoor
open Lib (hid)
open Go.RowKit Trx
open Go.Proofs.Tryz
theorem sloop_fn(m n:Mo)(w0:World)(b1:Nat)(hC:SmC m n w0 b1)(Q0:Exit->Act->World->Prop)(hexit:∀(a:Act) (wr:World),Fz b1 a->Below w0.heap.size w0 wr->Q0 (.exit 4) a wr)
  (a:Act) (w:World) (hf:Fz b1 a) (h4:a.eval (.tmp 8)=.int .i64 0) (hb:Below w0.heap.size w0 w):(Code.loop (smBody 2)).wp prog Q0 a w:=by
 have hkey:=((keyM_iff m n).1 hC.key).2.2.2.1
 have hle:=sl_le hC.ok1.fn
 refine wp_loop (λa wr=>Fz b1 a/\∃j:Nat,a.eval (.tmp 8)=.int .i64 j/\j<=m.fn.l.length/\Below w0.heap.size w0 wr) (λa _=>m.fn.l.length-(intOf (a.eval (.tmp 8))).toNat) ⟨hf,0,h4,by omega,hb⟩ ?_
 clear hf h4 hb a w
 rintro a wr ⟨hf,j,h6,hj,hbel⟩
 obtain⟨f,rfl,h2,h3,h4,h5⟩:=sl_open hf h6
 clear hf h6
 have hc0:wr.cell? ⟨b1,2,none⟩=some (.slice m.fn.A m.fn.l.length m.fn.c):=hC.d0 hbel (by omega) rfl
 by_cases hlt:j<m.fn.l.length
 ·
  obtain⟨p1,o1,x,hA1,hx,hb1,hok1,hcell1⟩:=hC.ok1.fn.at_ hlt
  have hlt2:j<n.fn.l.length:=by rw[key_len kFn hkey];exact hlt
  obtain⟨p2,o2,y,hA2,hy,hb2,hok2,hcell2⟩:=hC.ok2.fn.at_ hlt2
  obtain⟨_,⟨_,A3,c3⟩,⟨_,A4,c4⟩⟩:=y
  have hkk:=key_at kFn hkey hx hy
  simp only[kFn,Prod.mk.injEq]at hkk
  obtain⟨rfl,rfl,rfl⟩:=hkk
  have HC:=hid hC
  clear hkey hexit hC
  rw[hA1]at hc0
  conv=>arg 2;whnf
  unfold fz
  simp only[h2,h3,h4,h5]
  go_wp2_with fail
  refine gen_z 8 (v2:=.pointer (some ⟨b1,0,none⟩)) (v3:=.pointer (some ⟨b1+1,0,none⟩)) (v5:=.bool true) (vk:=.int .i64 j) _ rfl rfl rfl rfl rfl rfl ?_
  intro a hsz hd e2 e3 e5 e4
  refine region_vals 46 47 (WV ([tt1]++([tt1]++(sd b1 2 p1 o1 m.fn.l.length m.fn.c j 3 (sp p1 (o1+j * 3) [.inl (.int .i64 x.ty)])++(sd (b1+1) 2 p2 o2 n.fn.l.length n.fn.c j 3 (sp p2 (o2+j * 3) [.inl (.int .i64 x.ty)])++([tt1]++([tt1]++([tt1]++(sd b1 2 p1 o1 m.fn.l.length m.fn.c j 3 (sp p1 (o1+j * 3+1) [.inl (.slice x.lo.A x.lo.zs.length x.lo.c)])++(sd (b1+1) 2 p2 o2 n.fn.l.length n.fn.c j 3 (sp p2 (o2+j * 3+1) [.inl (.slice A3 x.lo.zs.length c3)])++([tt1]++([tt1]++([tt1]++(sd b1 2 p1 o1 m.fn.l.length m.fn.c j 3 (sp p1 (o1+j * 3+2) [.inl (.slice x.bo.A (len x.bo.f) x.bo.c)])++(sd (b1+1) 2 p2 o2 n.fn.l.length n.fn.c j 3 (sp p2 (o2+j * 3+2) [.inl (.slice A4 (len x.bo.f) c4)])++([tt1]++([tt1]))))))))))))))))) (λi=>i+177) a wr (by kernel_rfl) rfl (by omega) (by kernel_rfl) (by kernel_rfl) (by kernel_rfl) (by rw[hsz];kernel_rfl) WV.mono ?_ ?_
  ·
   intro i hi a1 w1 hB hV
   have hb:Below w0.heap.size w0 w1:=hbel.trans ((((zx wr.heap.size wr).drew).trans hB.below).mono hbel.size)
   obtain⟨z2,z3,z5,z4⟩:=sl_z hB e2 e3 e5 e4 (by omega) (by omega)
   have d0:w1.cell? ⟨b1,2,none⟩=some (.slice m.fn.A m.fn.l.length m.fn.c):=HC.out.d0 hb (by omega) rfl
   have d1:w1.cell? ⟨b1+1,2,none⟩=some (.slice n.fn.A n.fn.l.length n.fn.c):=HC.out.d1 hb (by omega) rfl
   rw[hA1]at d0
   rw[hA2]at d1
   have u:=row_of hb hb1 hcell1
   have v:=row_of hb hb2 hcell2
   simp only[allC,Fn.cells,zi,qx,qz,Nat.reduceAdd,qe,and_true]at u v
   obtain⟨u0,u1,u2⟩:=u
   obtain⟨v0,v1,v2⟩:=v
   have hkx:=hok1.keep hb.size (Below.kp hb)
   have hky:=hok2.keep hb.size (Below.kp hb)
   have hq1:=Ints_eq x.lo ⟨x.lo.zs,A3,c3⟩ w1 hkx.lo hky.lo rfl
   dsimp only at hq1
   have HQ1:=hid hq1
   clear hq1
   have hq2:=Code_eq x.bo ⟨x.bo.f,A4,c4⟩ w1 hkx.bo hky.bo rfl
   dsimp only at hq2
   have HQ2:=hid hq2
   clear hq2
   clear hcell1 hcell2 hc0 hB hok1 hok2
   revert i
   repeat'(first|exact lt_zero|refine lt_step ?_ ?_)
   all_goals
    intro hV
    (try have k0:=kp 0 hV)
    (try have k1:=kp 1 hV)
    (try have k2:=kp 2 hV)
    (try simp only[Nat.reduceAdd]at k0)
    (try simp only[Nat.reduceAdd]at k1)
    (try simp only[Nat.reduceAdd]at k2)
    first
    |exact pv
    |exact gw hV
    |(refine gt _ _ hV ?_;go_simp;(first|with_reducible refine HQ1.out.mono ?_|with_reducible refine HQ2.out.mono ?_);rintro e w' ⟨rfl,hb⟩;exact⟨_,rfl,hb,wv (by rfl)⟩)
  ·
   intro a1 w1 hB hV
   have hbw:Below wr.heap.size wr w1:=((zx wr.heap.size wr).drew).trans hB.below
   have kz:=ev (show a1.eval (.tmp 222)=.bool true from hV 45 (by omega))
   clear hV
   refine ready_one (i:=46) (by kernel_rfl) rfl rfl (op_val (.bool true) (by go_simp) (ready_none (by kernel_rfl) ?_))
   refine sl_put (X:=λa=>Exit.inBlock _ _ _ a w1) hB hsz hd e2 e3 e4 (by omega) (by omega) (by omega) λf' F2 F3 F4 F5=>?_
   clear kz hB e2 e3 e4 e5 hsz hd a1 a
   unfold fz
   simp only[F2,F3,F4,F5]
   go_wp2_with fail
   refine⟨⟨⟨rfl,rfl,rfl,rfl,rfl⟩,j+1,by show Value.int .i64 _=_;go_num,by omega,hbel.trans (hbw.mono hbel.size)⟩,?_⟩
   show m.fn.l.length-(intOf (.int .i64 _)).toNat<m.fn.l.length-(intOf (.int .i64 _)).toNat
   simp[intOf]
   omega
 ·
  have HX:=hid (λa (hf:Fz b1 a)=>hexit a wr hf hbel)
  clear hexit hkey
  conv=>arg 2;whnf
  unfold fz
  simp only[h2,h3,h4,h5]
  go_wp2_with fail
  exact HX.out _ ⟨rfl,rfl,rfl,rfl,rfl⟩
theorem sloop_me(m n:Mo)(w0:World)(b1:Nat)(hC:SmC m n w0 b1)(Q0:Exit->Act->World->Prop)(hexit:∀(a:Act) (wr:World),Fz b1 a->Below w0.heap.size w0 wr->Q0 (.exit 8) a wr)
  (a:Act) (w:World) (hf:Fz b1 a) (h4:a.eval (.tmp 10)=.int .i64 0) (hb:Below w0.heap.size w0 w):(Code.loop (smBody 4)).wp prog Q0 a w:=by
 have hkey:=((keyM_iff m n).1 hC.key).2.2.2.2.2.1
 have hle:=sl_le hC.ok1.me
 refine wp_loop (λa wr=>Fz b1 a/\∃j:Nat,a.eval (.tmp 10)=.int .i64 j/\j<=m.me.l.length/\Below w0.heap.size w0 wr) (λa _=>m.me.l.length-(intOf (a.eval (.tmp 10))).toNat) ⟨hf,0,h4,by omega,hb⟩ ?_
 clear hf h4 hb a w
 rintro a wr ⟨hf,j,h6,hj,hbel⟩
 obtain⟨f,rfl,h2,h3,h4,h5⟩:=sl_open hf h6
 clear hf h6
 have hc0:wr.cell? ⟨b1,4,none⟩=some (.slice m.me.A m.me.l.length m.me.c):=hC.d0 hbel (by omega) rfl
 by_cases hlt:j<m.me.l.length
 ·
  obtain⟨p1,o1,x,hA1,hx,hb1,hok1,hcell1⟩:=hC.ok1.me.at_ hlt
  have hlt2:j<n.me.l.length:=by rw[<-hkey];exact hlt
  obtain⟨p2,o2,y,hA2,hy,hb2,hok2,hcell2⟩:=hC.ok2.me.at_ hlt2
  obtain rfl:x=y:=Option.some.inj (hx.symm.trans ((congrArg (λl=>l[j]?) hkey).trans hy))
  have HC:=hid hC
  clear hkey hexit hC
  rw[hA1]at hc0
  conv=>arg 2;whnf
  unfold fz
  simp only[h2,h3,h4,h5]
  go_wp2_with fail
  refine gen_z 10 (v2:=.pointer (some ⟨b1,0,none⟩)) (v3:=.pointer (some ⟨b1+1,0,none⟩)) (v5:=.bool true) (vk:=.int .i64 j) _ rfl rfl rfl rfl rfl rfl ?_
  intro a hsz hd e2 e3 e5 e4
  refine region_vals 14 15 (WV ([tt1]++([tt1]++(sd b1 4 p1 o1 m.me.l.length m.me.c j 3 [.inl (.agg #[.int .i64 x.mn,.int .i64 x.mx,.bool x.hs])]++(sd (b1+1) 4 p2 o2 n.me.l.length n.me.c j 3 [.inl (.agg #[.int .i64 x.mn,.int .i64 x.mx,.bool x.hs])]++([tt1]++([tt1]))))))) (λi=>i+251) a wr (by kernel_rfl) rfl (by omega) (by kernel_rfl) (by kernel_rfl) (by kernel_rfl) (by rw[hsz];kernel_rfl) WV.mono ?_ ?_
  ·
   intro i hi a1 w1 hB hV
   have hb:Below w0.heap.size w0 w1:=hbel.trans ((((zx wr.heap.size wr).drew).trans hB.below).mono hbel.size)
   obtain⟨z2,z3,z5,z4⟩:=sl_z hB e2 e3 e5 e4 (by omega) (by omega)
   have d0:w1.cell? ⟨b1,4,none⟩=some (.slice m.me.A m.me.l.length m.me.c):=HC.out.d0 hb (by omega) rfl
   have d1:w1.cell? ⟨b1+1,4,none⟩=some (.slice n.me.A n.me.l.length n.me.c):=HC.out.d1 hb (by omega) rfl
   rw[hA1]at d0
   rw[hA2]at d1
   have u:=row_of hb hb1 hcell1
   have v:=row_of hb hb2 hcell2
   simp only[allC,Lm.cells,zi,qx,qz,Nat.reduceAdd,qe,and_true]at u v
   obtain⟨u0,u1,u2⟩:=u
   obtain⟨v0,v1,v2⟩:=v
   clear hcell1 hcell2 hc0 hB hok1 hok2
   revert i
   repeat'(first|exact lt_zero|refine lt_step ?_ ?_)
   all_goals
    intro hV
    (try have k0:=kp 0 hV)
    (try have k1:=kp 1 hV)
    (try have k2:=kp 2 hV)
    (try simp only[Nat.reduceAdd]at k0)
    (try simp only[Nat.reduceAdd]at k1)
    (try simp only[Nat.reduceAdd]at k2)
    first
    |exact pv
    |exact gw hV
  ·
   intro a1 w1 hB hV
   have hbw:Below wr.heap.size wr w1:=((zx wr.heap.size wr).drew).trans hB.below
   have kz:=ev (show a1.eval (.tmp 264)=.bool true from hV 13 (by omega))
   clear hV
   refine ready_one (i:=14) (by kernel_rfl) rfl rfl (op_val (.bool true) (by go_simp) (ready_none (by kernel_rfl) ?_))
   refine sl_put (X:=λa=>Exit.inBlock _ _ _ a w1) hB hsz hd e2 e3 e4 (by omega) (by omega) (by omega) λf' F2 F3 F4 F5=>?_
   clear kz hB e2 e3 e4 e5 hsz hd a1 a
   unfold fz
   simp only[F2,F3,F4,F5]
   go_wp2_with fail
   refine⟨⟨⟨rfl,rfl,rfl,rfl,rfl⟩,j+1,by show Value.int .i64 _=_;go_num,by omega,hbel.trans (hbw.mono hbel.size)⟩,?_⟩
   show m.me.l.length-(intOf (.int .i64 _)).toNat<m.me.l.length-(intOf (.int .i64 _)).toNat
   simp[intOf]
   omega
 ·
  have HX:=hid (λa (hf:Fz b1 a)=>hexit a wr hf hbel)
  clear hexit hkey
  conv=>arg 2;whnf
  unfold fz
  simp only[h2,h3,h4,h5]
  go_wp2_with fail
  exact HX.out _ ⟨rfl,rfl,rfl,rfl,rfl⟩
theorem sloop_el(m n:Mo)(w0:World)(b1:Nat)(hC:SmC m n w0 b1)(Q0:Exit->Act->World->Prop)(hexit:∀(a:Act) (wr:World),Fz b1 a->Below w0.heap.size w0 wr->Q0 (.exit 14) a wr)
  (a:Act) (w:World) (hf:Fz b1 a) (h4:a.eval (.tmp 13)=.int .i64 0) (hb:Below w0.heap.size w0 w):(Code.loop (smBody 7)).wp prog Q0 a w:=by
 have hkey:=((keyM_iff m n).1 hC.key).2.2.2.2.2.2.2.2.1
 have hle:=sl_le hC.ok1.el
 refine wp_loop (λa wr=>Fz b1 a/\∃j:Nat,a.eval (.tmp 13)=.int .i64 j/\j<=m.el.l.length/\Below w0.heap.size w0 wr) (λa _=>m.el.l.length-(intOf (a.eval (.tmp 13))).toNat) ⟨hf,0,h4,by omega,hb⟩ ?_
 clear hf h4 hb a w
 rintro a wr ⟨hf,j,h6,hj,hbel⟩
 obtain⟨f,rfl,h2,h3,h4,h5⟩:=sl_open hf h6
 clear hf h6
 have hc0:wr.cell? ⟨b1,8,none⟩=some (.slice m.el.A m.el.l.length m.el.c):=hC.d0 hbel (by omega) rfl
 by_cases hlt:j<m.el.l.length
 ·
  obtain⟨p1,o1,x,hA1,hx,hb1,hok1,hcell1⟩:=hC.ok1.el.at_ hlt
  have hlt2:j<n.el.l.length:=by rw[key_len kEl hkey];exact hlt
  obtain⟨p2,o2,y,hA2,hy,hb2,hok2,hcell2⟩:=hC.ok2.el.at_ hlt2
  obtain⟨⟨_,p4⟩,⟨_,A3,c3⟩⟩:=y
  have hkk:=key_at kEl hkey hx hy
  simp only[kEl,Prod.mk.injEq]at hkk
  obtain⟨rfl,rfl⟩:=hkk
  have HC:=hid hC
  clear hkey hexit hC
  rw[hA1]at hc0
  conv=>arg 2;whnf
  unfold fz
  simp only[h2,h3,h4,h5]
  go_wp2_with fail
  refine gen_z 13 (v2:=.pointer (some ⟨b1,0,none⟩)) (v3:=.pointer (some ⟨b1+1,0,none⟩)) (v5:=.bool true) (vk:=.int .i64 j) _ rfl rfl rfl rfl rfl rfl ?_
  intro a hsz hd e2 e3 e5 e4
  refine region_vals 33 34 (WV ([tt1]++([tt1]++(sd b1 8 p1 o1 m.el.l.length m.el.c j 10 (sp p1 (o1+j * 10) [.inl (inA x.i),.inr x.i.n])++(sd (b1+1) 8 p2 o2 n.el.l.length n.el.c j 10 (sp p2 (o2+j * 10) [.inl (inA ⟨x.i.n,p4⟩),.inr x.i.n])++([tt1]++([tt1]++([tt1]++(sd b1 8 p1 o1 m.el.l.length m.el.c j 10 (sp p1 (o1+j * 10+9) [.inl (.slice x.fs.A x.fs.zs.length x.fs.c)])++(sd (b1+1) 8 p2 o2 n.el.l.length n.el.c j 10 (sp p2 (o2+j * 10+9) [.inl (.slice A3 x.fs.zs.length c3)])++([tt1]++([tt1])))))))))))) (λi=>i+348) a wr (by kernel_rfl) rfl (by omega) (by kernel_rfl) (by kernel_rfl) (by kernel_rfl) (by rw[hsz];kernel_rfl) WV.mono ?_ ?_
  ·
   intro i hi a1 w1 hB hV
   have hb:Below w0.heap.size w0 w1:=hbel.trans ((((zx wr.heap.size wr).drew).trans hB.below).mono hbel.size)
   obtain⟨z2,z3,z5,z4⟩:=sl_z hB e2 e3 e5 e4 (by omega) (by omega)
   have d0:w1.cell? ⟨b1,8,none⟩=some (.slice m.el.A m.el.l.length m.el.c):=HC.out.d0 hb (by omega) rfl
   have d1:w1.cell? ⟨b1+1,8,none⟩=some (.slice n.el.A n.el.l.length n.el.c):=HC.out.d1 hb (by omega) rfl
   rw[hA1]at d0
   rw[hA2]at d1
   have u:=row_of hb hb1 hcell1
   have v:=row_of hb hb2 hcell2
   simp only[allC,El.cells,In.cells,insC,zi,qx,qz,Nat.reduceAdd,qe,and_true]at u v
   obtain⟨u0,u1,u2,u3,u4,u5,u6,u7,u8,u9⟩:=u
   obtain⟨v0,v1,v2,v3,v4,v5,v6,v7,v8,v9⟩:=v
   have hkx:=hok1.keep hb.size (Below.kp hb)
   have hky:=hok2.keep hb.size (Below.kp hb)
   have HSx:=hid (single_any x.i w1 hkx.i)
   have HSy:=hid (single_any ⟨x.i.n,p4⟩ w1 hky.i)
   have hq1:=Ints_eq x.fs ⟨x.fs.zs,A3,c3⟩ w1 hkx.fs hky.fs rfl
   dsimp only at hq1
   have HQ1:=hid hq1
   clear hq1
   clear hcell1 hcell2 hc0 hB hok1 hok2
   revert i
   repeat'(first|exact lt_zero|refine lt_step ?_ ?_)
   all_goals
    intro hV
    (try have k0:=kp 0 hV)
    (try have k1:=kp 1 hV)
    (try have k2:=kp 2 hV)
    (try simp only[Nat.reduceAdd]at k0)
    (try simp only[Nat.reduceAdd]at k1)
    (try simp only[Nat.reduceAdd]at k2)
    first
    |exact pv
    |exact gw hV
    |(refine gt _ _ hV ?_;go_simp;(first|with_reducible refine HQ1.out.mono ?_);rintro e w' ⟨rfl,hb⟩;exact⟨_,rfl,hb,wv (by rfl)⟩)
    |(refine gt _ _ hV ?_;go_simp;(first|with_reducible refine HSx.out.mono ?_|with_reducible refine HSy.out.mono ?_);rintro e w' ⟨A',rfl,y1,y2⟩;exact⟨_,rfl,y2,wn (by rfl) y1⟩)
    |(obtain⟨A1,k3,d3⟩:=kq 0 hV;obtain⟨A2,k4,d4⟩:=kq 1 hV;simp only[Nat.reduceAdd]at k3 k4;have HI:=hid (Ins_eq x.i.n x.i.n A1 A2 w1 d3 d4 rfl);refine gt _ _ hV ?_;go_simp;refine HI.out.mono ?_;rintro e w' ⟨rfl,hb⟩;exact⟨_,rfl,hb,wv (by rfl)⟩)
  ·
   intro a1 w1 hB hV
   have hbw:Below wr.heap.size wr w1:=((zx wr.heap.size wr).drew).trans hB.below
   have kz:=ev (show a1.eval (.tmp 380)=.bool true from hV 32 (by omega))
   clear hV
   refine ready_one (i:=33) (by kernel_rfl) rfl rfl (op_val (.bool true) (by go_simp) (ready_none (by kernel_rfl) ?_))
   refine sl_put (X:=λa=>Exit.inBlock _ _ _ a w1) hB hsz hd e2 e3 e4 (by omega) (by omega) (by omega) λf' F2 F3 F4 F5=>?_
   clear kz hB e2 e3 e4 e5 hsz hd a1 a
   unfold fz
   simp only[F2,F3,F4,F5]
   go_wp2_with fail
   refine⟨⟨⟨rfl,rfl,rfl,rfl,rfl⟩,j+1,by show Value.int .i64 _=_;go_num,by omega,hbel.trans (hbw.mono hbel.size)⟩,?_⟩
   show m.el.l.length-(intOf (.int .i64 _)).toNat<m.el.l.length-(intOf (.int .i64 _)).toNat
   simp[intOf]
   omega
 ·
  have HX:=hid (λa (hf:Fz b1 a)=>hexit a wr hf hbel)
  clear hexit hkey
  conv=>arg 2;whnf
  unfold fz
  simp only[h2,h3,h4,h5]
  go_wp2_with fail
  exact HX.out _ ⟨rfl,rfl,rfl,rfl,rfl⟩
end Go.Proofs.YteoijlfipmaoeaaGreatDoor
