import Derived.Test.YteoijlfipmaoeaaGreatDoorPJ33
set_option linter.unusedVariables false
set_option linter.unusedSimpArgs false
set_option maxRecDepth 100000
set_option maxHeartbeats 8000000
namespace Go.Proofs.YteoijlfipmaoeaaGreatDoor
open Lib (hid)
open Go.RowKit Trx
open Go.Proofs.Tryz
theorem sloop_ex(m n:Mo)(w0:World)(b1:Nat)(hC:SmC m n w0 b1)(Q0:Exit->Act->World->Prop)(hexit:∀(a:Act) (wr:World),Fz b1 a->Below w0.heap.size w0 wr->Q0 (.exit 12) a wr)
  (a:Act) (w:World) (hf:Fz b1 a) (h4:a.eval (.tmp 12)=.int .i64 0) (hb:Below w0.heap.size w0 w):(Code.loop (smBody 6)).wp prog Q0 a w:=by
 have hkey:=((keyM_iff m n).1 hC.key).2.2.2.2.2.2.2.1
 have hle:=sl_le hC.ok1.ex
 refine wp_loop (λa wr=>Fz b1 a/\∃j:Nat,a.eval (.tmp 12)=.int .i64 j/\j<=m.ex.l.length/\Below w0.heap.size w0 wr) (λa _=>m.ex.l.length-(intOf (a.eval (.tmp 12))).toNat) ⟨hf,0,h4,by omega,hb⟩ ?_
 clear hf h4 hb a w
 rintro a wr ⟨hf,j,h6,hj,hbel⟩
 obtain⟨f,rfl,h2,h3,h4,h5⟩:=sl_open hf h6
 clear hf h6
 have hc0:wr.cell? ⟨b1,6,none⟩=some (.slice m.ex.A m.ex.l.length m.ex.c):=hC.d0 hbel (by omega) rfl
 by_cases hlt:j<m.ex.l.length
 ·
  obtain⟨p1,o1,x,hA1,hx,hb1,hok1,hcell1⟩:=hC.ok1.ex.at_ hlt
  have hlt2:j<n.ex.l.length:=by rw[<-hkey];exact hlt
  obtain⟨p2,o2,y,hA2,hy,hb2,hok2,hcell2⟩:=hC.ok2.ex.at_ hlt2
  obtain rfl:x=y:=Option.some.inj (hx.symm.trans ((congrArg (λl=>l[j]?) hkey).trans hy))
  have HC:=hid hC
  clear hkey hexit hC
  rw[hA1]at hc0
  conv=>arg 2;whnf
  unfold fz
  simp only[h2,h3,h4,h5]
  go_wp2_with fail
  refine gen_z 12 (v2:=.pointer (some ⟨b1,0,none⟩)) (v3:=.pointer (some ⟨b1+1,0,none⟩)) (v5:=.bool true) (vk:=.int .i64 j) _ rfl rfl rfl rfl rfl rfl ?_
  intro a hsz hd e2 e3 e5 e4
  refine region_vals 14 15 (WV ([tt1]++([tt1]++(sd b1 6 p1 o1 m.ex.l.length m.ex.c j 3 [.inl (.agg #[.string x.nm,.int .i64 x.kd,.int .i64 x.ix])]++(sd (b1+1) 6 p2 o2 n.ex.l.length n.ex.c j 3 [.inl (.agg #[.string x.nm,.int .i64 x.kd,.int .i64 x.ix])]++([tt1]++([tt1]))))))) (λi=>i+327) a wr (by kernel_rfl) rfl (by omega) (by kernel_rfl) (by kernel_rfl) (by kernel_rfl) (by rw[hsz];kernel_rfl) WV.mono ?_ ?_
  ·
   intro i hi a1 w1 hB hV
   have hb:Below w0.heap.size w0 w1:=hbel.trans ((((zx wr.heap.size wr).drew).trans hB.below).mono hbel.size)
   obtain⟨z2,z3,z5,z4⟩:=sl_z hB e2 e3 e5 e4 (by omega) (by omega)
   have d0:w1.cell? ⟨b1,6,none⟩=some (.slice m.ex.A m.ex.l.length m.ex.c):=HC.out.d0 hb (by omega) rfl
   have d1:w1.cell? ⟨b1+1,6,none⟩=some (.slice n.ex.A n.ex.l.length n.ex.c):=HC.out.d1 hb (by omega) rfl
   rw[hA1]at d0
   rw[hA2]at d1
   have u:=row_of hb hb1 hcell1
   have v:=row_of hb hb2 hcell2
   simp only[allC,Ex.cells,zi,qx,qz,Nat.reduceAdd,qe,and_true]at u v
   obtain⟨u0,u1,u2⟩:=u
   obtain⟨v0,v1,v2⟩:=v
   clear hcell1 hcell2 hc0 hB hok1 hok2
   revert i
   repeat'(first|exact lt_zero|refine lt_step ?_ ?_)
   all_goals
    intro hV
    (try have k0:=kp 0 hV)
    (try have k1:=kp 1 hV)
    (try have k2:=kp 2 hV)
    (try simp only[Nat.reduceAdd]at k0)
    (try simp only[Nat.reduceAdd]at k1)
    (try simp only[Nat.reduceAdd]at k2)
    first
    |exact pv
    |exact gw hV
  ·
   intro a1 w1 hB hV
   have hbw:Below wr.heap.size wr w1:=((zx wr.heap.size wr).drew).trans hB.below
   have kz:=ev (show a1.eval (.tmp 340)=.bool true from hV 13 (by omega))
   clear hV
   refine ready_one (i:=14) (by kernel_rfl) rfl rfl (op_val (.bool true) (by go_simp) (ready_none (by kernel_rfl) ?_))
   refine sl_put (X:=λa=>Exit.inBlock _ _ _ a w1) hB hsz hd e2 e3 e4 (by omega) (by omega) (by omega) λf' F2 F3 F4 F5=>?_
   clear kz hB e2 e3 e4 e5 hsz hd a1 a
   unfold fz
   simp only[F2,F3,F4,F5]
   go_wp2_with fail
   refine⟨⟨⟨rfl,rfl,rfl,rfl,rfl⟩,j+1,by show Value.int .i64 _=_;go_num,by omega,hbel.trans (hbw.mono hbel.size)⟩,?_⟩
   show m.ex.l.length-(intOf (.int .i64 _)).toNat<m.ex.l.length-(intOf (.int .i64 _)).toNat
   simp[intOf]
   omega
 ·
  have HX:=hid (λa (hf:Fz b1 a)=>hexit a wr hf hbel)
  clear hexit hkey
  conv=>arg 2;whnf
  unfold fz
  simp only[h2,h3,h4,h5]
  go_wp2_with fail
  exact HX.out _ ⟨rfl,rfl,rfl,rfl,rfl⟩
theorem sloop_gl(m n:Mo)(w0:World)(b1:Nat)(hC:SmC m n w0 b1)(Q0:Exit->Act->World->Prop)(hexit:∀(a:Act) (wr:World),Fz b1 a->Below w0.heap.size w0 wr->Q0 (.exit 10) a wr)
  (a:Act) (w:World) (hf:Fz b1 a) (h4:a.eval (.tmp 11)=.int .i64 0) (hb:Below w0.heap.size w0 w):(Code.loop (smBody 5)).wp prog Q0 a w:=by
 have hkey:=((keyM_iff m n).1 hC.key).2.2.2.2.2.2.1
 have hle:=sl_le hC.ok1.gl
 refine wp_loop (λa wr=>Fz b1 a/\∃j:Nat,a.eval (.tmp 11)=.int .i64 j/\j<=m.gl.l.length/\Below w0.heap.size w0 wr) (λa _=>m.gl.l.length-(intOf (a.eval (.tmp 11))).toNat) ⟨hf,0,h4,by omega,hb⟩ ?_
 clear hf h4 hb a w
 rintro a wr ⟨hf,j,h6,hj,hbel⟩
 obtain⟨f,rfl,h2,h3,h4,h5⟩:=sl_open hf h6
 clear hf h6
 have hc0:wr.cell? ⟨b1,5,none⟩=some (.slice m.gl.A m.gl.l.length m.gl.c):=hC.d0 hbel (by omega) rfl
 by_cases hlt:j<m.gl.l.length
 ·
  obtain⟨p1,o1,x,hA1,hx,hb1,hok1,hcell1⟩:=hC.ok1.gl.at_ hlt
  have hlt2:j<n.gl.l.length:=by rw[key_len kGl hkey];exact hlt
  obtain⟨p2,o2,y,hA2,hy,hb2,hok2,hcell2⟩:=hC.ok2.gl.at_ hlt2
  obtain⟨_,_,⟨_,p4⟩⟩:=y
  have hkk:=key_at kGl hkey hx hy
  simp only[kGl,Prod.mk.injEq]at hkk
  obtain⟨rfl,rfl,rfl⟩:=hkk
  have HC:=hid hC
  clear hkey hexit hC
  rw[hA1]at hc0
  conv=>arg 2;whnf
  unfold fz
  simp only[h2,h3,h4,h5]
  go_wp2_with fail
  refine gen_z 11 (v2:=.pointer (some ⟨b1,0,none⟩)) (v3:=.pointer (some ⟨b1+1,0,none⟩)) (v5:=.bool true) (vk:=.int .i64 j) _ rfl rfl rfl rfl rfl rfl ?_
  intro a hsz hd e2 e3 e5 e4
  refine region_vals 48 49 (WV ([tt1]++([tt1]++(sd b1 5 p1 o1 m.gl.l.length m.gl.c j 11 (sp p1 (o1+j * 11) [.inl (.int .i64 x.ty)])++(sd (b1+1) 5 p2 o2 n.gl.l.length n.gl.c j 11 (sp p2 (o2+j * 11) [.inl (.int .i64 x.ty)])++([tt1]++([tt1]++([tt1]++(sd b1 5 p1 o1 m.gl.l.length m.gl.c j 11 (sp p1 (o1+j * 11+1) [.inl (.bool x.mu)])++(sd (b1+1) 5 p2 o2 n.gl.l.length n.gl.c j 11 (sp p2 (o2+j * 11+1) [.inl (.bool x.mu)])++([tt1]++([tt1]++([tt1]++(sd b1 5 p1 o1 m.gl.l.length m.gl.c j 11 (sp p1 (o1+j * 11+2) [.inl (inA x.i),.inr x.i.n])++(sd (b1+1) 5 p2 o2 n.gl.l.length n.gl.c j 11 (sp p2 (o2+j * 11+2) [.inl (inA ⟨x.i.n,p4⟩),.inr x.i.n])++([tt1]++([tt1]))))))))))))))))) (λi=>i+272) a wr (by kernel_rfl) rfl (by omega) (by kernel_rfl) (by kernel_rfl) (by kernel_rfl) (by rw[hsz];kernel_rfl) WV.mono ?_ ?_
  ·
   intro i hi a1 w1 hB hV
   have hb:Below w0.heap.size w0 w1:=hbel.trans ((((zx wr.heap.size wr).drew).trans hB.below).mono hbel.size)
   obtain⟨z2,z3,z5,z4⟩:=sl_z hB e2 e3 e5 e4 (by omega) (by omega)
   have d0:w1.cell? ⟨b1,5,none⟩=some (.slice m.gl.A m.gl.l.length m.gl.c):=HC.out.d0 hb (by omega) rfl
   have d1:w1.cell? ⟨b1+1,5,none⟩=some (.slice n.gl.A n.gl.l.length n.gl.c):=HC.out.d1 hb (by omega) rfl
   rw[hA1]at d0
   rw[hA2]at d1
   have u:=row_of hb hb1 hcell1
   have v:=row_of hb hb2 hcell2
   simp only[allC,Gl.cells,In.cells,insC,zi,qx,qz,Nat.reduceAdd,qe,and_true]at u v
   obtain⟨u0,u1,u2,u3,u4,u5,u6,u7,u8,u9,u10⟩:=u
   obtain⟨v0,v1,v2,v3,v4,v5,v6,v7,v8,v9,v10⟩:=v
   have hkx:=hok1.keep hb.size (Below.kp hb)
   have hky:=hok2.keep hb.size (Below.kp hb)
   have HSx:=hid (single_any x.i w1 hkx.i)
   have HSy:=hid (single_any ⟨x.i.n,p4⟩ w1 hky.i)
   clear hcell1 hcell2 hc0 hB hok1 hok2
   revert i
   repeat'(first|exact lt_zero|refine lt_step ?_ ?_)
   all_goals
    intro hV
    (try have k0:=kp 0 hV)
    (try have k1:=kp 1 hV)
    (try have k2:=kp 2 hV)
    (try simp only[Nat.reduceAdd]at k0)
    (try simp only[Nat.reduceAdd]at k1)
    (try simp only[Nat.reduceAdd]at k2)
    first
    |exact pv
    |exact gw hV
    |(refine gt _ _ hV ?_;go_simp;(first|with_reducible refine HSx.out.mono ?_|with_reducible refine HSy.out.mono ?_);rintro e w' ⟨A',rfl,y1,y2⟩;exact⟨_,rfl,y2,wn (by rfl) y1⟩)
    |(obtain⟨A1,k3,d3⟩:=kq 0 hV;obtain⟨A2,k4,d4⟩:=kq 1 hV;simp only[Nat.reduceAdd]at k3 k4;have HI:=hid (Ins_eq x.i.n x.i.n A1 A2 w1 d3 d4 rfl);refine gt _ _ hV ?_;go_simp;refine HI.out.mono ?_;rintro e w' ⟨rfl,hb⟩;exact⟨_,rfl,hb,wv (by rfl)⟩)
  ·
   intro a1 w1 hB hV
   have hbw:Below wr.heap.size wr w1:=((zx wr.heap.size wr).drew).trans hB.below
   have kz:=ev (show a1.eval (.tmp 319)=.bool true from hV 47 (by omega))
   clear hV
   refine ready_one (i:=48) (by kernel_rfl) rfl rfl (op_val (.bool true) (by go_simp) (ready_none (by kernel_rfl) ?_))
   refine sl_put (X:=λa=>Exit.inBlock _ _ _ a w1) hB hsz hd e2 e3 e4 (by omega) (by omega) (by omega) λf' F2 F3 F4 F5=>?_
   clear kz hB e2 e3 e4 e5 hsz hd a1 a
   unfold fz
   simp only[F2,F3,F4,F5]
   go_wp2_with fail
   refine⟨⟨⟨rfl,rfl,rfl,rfl,rfl⟩,j+1,by show Value.int .i64 _=_;go_num,by omega,hbel.trans (hbw.mono hbel.size)⟩,?_⟩
   show m.gl.l.length-(intOf (.int .i64 _)).toNat<m.gl.l.length-(intOf (.int .i64 _)).toNat
   simp[intOf]
   omega
 ·
  have HX:=hid (λa (hf:Fz b1 a)=>hexit a wr hf hbel)
  clear hexit hkey
  conv=>arg 2;whnf
  unfold fz
  simp only[h2,h3,h4,h5]
  go_wp2_with fail
  exact HX.out _ ⟨rfl,rfl,rfl,rfl,rfl⟩
theorem sloop_da(m n:Mo)(w0:World)(b1:Nat)(hC:SmC m n w0 b1)(Q0:Exit->Act->World->Prop)(hexit:∀(a:Act) (wr:World),Fz b1 a->Below w0.heap.size w0 wr->Q0 (.exit 16) a wr)
  (a:Act) (w:World) (hf:Fz b1 a) (h4:a.eval (.tmp 14)=.int .i64 0) (hb:Below w0.heap.size w0 w):(Code.loop (smBody 8)).wp prog Q0 a w:=by
 have hkey:=((keyM_iff m n).1 hC.key).2.2.2.2.2.2.2.2.2.1
 have hle:=sl_le hC.ok1.da
 refine wp_loop (λa wr=>Fz b1 a/\∃j:Nat,a.eval (.tmp 14)=.int .i64 j/\j<=m.da.l.length/\Below w0.heap.size w0 wr) (λa _=>m.da.l.length-(intOf (a.eval (.tmp 14))).toNat) ⟨hf,0,h4,by omega,hb⟩ ?_
 clear hf h4 hb a w
 rintro a wr ⟨hf,j,h6,hj,hbel⟩
 obtain⟨f,rfl,h2,h3,h4,h5⟩:=sl_open hf h6
 clear hf h6
 have hc0:wr.cell? ⟨b1,9,none⟩=some (.slice m.da.A m.da.l.length m.da.c):=hC.d0 hbel (by omega) rfl
 by_cases hlt:j<m.da.l.length
 ·
  obtain⟨p1,o1,x,hA1,hx,hb1,hok1,hcell1⟩:=hC.ok1.da.at_ hlt
  have hlt2:j<n.da.l.length:=by rw[key_len kDa hkey];exact hlt
  obtain⟨p2,o2,y,hA2,hy,hb2,hok2,hcell2⟩:=hC.ok2.da.at_ hlt2
  obtain⟨⟨_,p4⟩,⟨_,A3,c3⟩⟩:=y
  have hkk:=key_at kDa hkey hx hy
  simp only[kDa,Prod.mk.injEq]at hkk
  obtain⟨rfl,rfl⟩:=hkk
  have HC:=hid hC
  clear hkey hexit hC
  rw[hA1]at hc0
  conv=>arg 2;whnf
  unfold fz
  simp only[h2,h3,h4,h5]
  go_wp2_with fail
  refine gen_z 14 (v2:=.pointer (some ⟨b1,0,none⟩)) (v3:=.pointer (some ⟨b1+1,0,none⟩)) (v5:=.bool true) (vk:=.int .i64 j) _ rfl rfl rfl rfl rfl rfl ?_
  intro a hsz hd e2 e3 e5 e4
  refine region_vals 35 36 (WV ([tt1]++([tt1]++(sd b1 9 p1 o1 m.da.l.length m.da.c j 10 (sp p1 (o1+j * 10) [.inl (inA x.i),.inr x.i.n])++(sd (b1+1) 9 p2 o2 n.da.l.length n.da.c j 10 (sp p2 (o2+j * 10) [.inl (inA ⟨x.i.n,p4⟩),.inr x.i.n])++([tt1]++([tt1]++([tt1]++(sd b1 9 p1 o1 m.da.l.length m.da.c j 10 (sp p1 (o1+j * 10+9) [.inl (.slice x.bs.A x.bs.bs.length x.bs.c),.inl (.string ⟨x.bs.bs.toArray⟩)])++(sd (b1+1) 9 p2 o2 n.da.l.length n.da.c j 10 (sp p2 (o2+j * 10+9) [.inl (.slice A3 x.bs.bs.length c3),.inl (.string ⟨x.bs.bs.toArray⟩)])++([tt1]++([tt1])))))))))))) (λi=>i+388) a wr (by kernel_rfl) rfl (by omega) (by kernel_rfl) (by kernel_rfl) (by kernel_rfl) (by rw[hsz];kernel_rfl) WV.mono ?_ ?_
  ·
   intro i hi a1 w1 hB hV
   have hb:Below w0.heap.size w0 w1:=hbel.trans ((((zx wr.heap.size wr).drew).trans hB.below).mono hbel.size)
   obtain⟨z2,z3,z5,z4⟩:=sl_z hB e2 e3 e5 e4 (by omega) (by omega)
   have d0:w1.cell? ⟨b1,9,none⟩=some (.slice m.da.A m.da.l.length m.da.c):=HC.out.d0 hb (by omega) rfl
   have d1:w1.cell? ⟨b1+1,9,none⟩=some (.slice n.da.A n.da.l.length n.da.c):=HC.out.d1 hb (by omega) rfl
   rw[hA1]at d0
   rw[hA2]at d1
   have u:=row_of hb hb1 hcell1
   have v:=row_of hb hb2 hcell2
   simp only[allC,Da.cells,In.cells,insC,zi,qx,qz,Nat.reduceAdd,qe,and_true]at u v
   obtain⟨u0,u1,u2,u3,u4,u5,u6,u7,u8,u9⟩:=u
   obtain⟨v0,v1,v2,v3,v4,v5,v6,v7,v8,v9⟩:=v
   have hkx:=hok1.keep hb.size (Below.kp hb)
   have hky:=hok2.keep hb.size (Below.kp hb)
   have HSx:=hid (single_any x.i w1 hkx.i)
   have HSy:=hid (single_any ⟨x.i.n,p4⟩ w1 hky.i)
   have hcx:=run_str_of (P:=prog) 35 9 5 underlying35 underlying5 underlying9 hkx.bs.sl x.bs.c
   have hcy:=run_str_of (P:=prog) 35 9 5 underlying35 underlying5 underlying9 hky.bs.sl c3
   simp only at hcy
   clear hcell1 hcell2 hc0 hB hok1 hok2
   revert i
   repeat'(first|exact lt_zero|refine lt_step ?_ ?_)
   all_goals
    intro hV
    (try have k0:=kp 0 hV)
    (try have k1:=kp 1 hV)
    (try have k2:=kp 2 hV)
    (try simp only[Nat.reduceAdd]at k0)
    (try simp only[Nat.reduceAdd]at k1)
    (try simp only[Nat.reduceAdd]at k2)
    first
    |exact pv
    |exact gw hV
    |(refine gt _ _ hV ?_;go_simp;(first|with_reducible refine HSx.out.mono ?_|with_reducible refine HSy.out.mono ?_);rintro e w' ⟨A',rfl,y1,y2⟩;exact⟨_,rfl,y2,wn (by rfl) y1⟩)
    |(obtain⟨A1,k3,d3⟩:=kq 0 hV;obtain⟨A2,k4,d4⟩:=kq 1 hV;simp only[Nat.reduceAdd]at k3 k4;have HI:=hid (Ins_eq x.i.n x.i.n A1 A2 w1 d3 d4 rfl);refine gt _ _ hV ?_;go_simp;refine HI.out.mono ?_;rintro e w' ⟨rfl,hb⟩;exact⟨_,rfl,hb,wv (by rfl)⟩)
  ·
   intro a1 w1 hB hV
   have hbw:Below wr.heap.size wr w1:=((zx wr.heap.size wr).drew).trans hB.below
   have kz:=ev (show a1.eval (.tmp 422)=.bool true from hV 34 (by omega))
   clear hV
   refine ready_one (i:=35) (by kernel_rfl) rfl rfl (op_val (.bool true) (by go_simp) (ready_none (by kernel_rfl) ?_))
   refine sl_put (X:=λa=>Exit.inBlock _ _ _ a w1) hB hsz hd e2 e3 e4 (by omega) (by omega) (by omega) λf' F2 F3 F4 F5=>?_
   clear kz hB e2 e3 e4 e5 hsz hd a1 a
   unfold fz
   simp only[F2,F3,F4,F5]
   go_wp2_with fail
   refine⟨⟨⟨rfl,rfl,rfl,rfl,rfl⟩,j+1,by show Value.int .i64 _=_;go_num,by omega,hbel.trans (hbw.mono hbel.size)⟩,?_⟩
   show m.da.l.length-(intOf (.int .i64 _)).toNat<m.da.l.length-(intOf (.int .i64 _)).toNat
   simp[intOf]
   omega
 ·
  have HX:=hid (λa (hf:Fz b1 a)=>hexit a wr hf hbel)
  clear hexit hkey
  conv=>arg 2;whnf
  unfold fz
  simp only[h2,h3,h4,h5]
  go_wp2_with fail
  exact HX.out _ ⟨rfl,rfl,rfl,rfl,rfl⟩
theorem sloop_cu(m n:Mo)(w0:World)(b1:Nat)(hC:SmC m n w0 b1)(Q0:Exit->Act->World->Prop)(hexit:∀(a:Act) (wr:World),Fz b1 a->Below w0.heap.size w0 wr->Q0 (.exit 18) a wr)
  (a:Act) (w:World) (hf:Fz b1 a) (h4:a.eval (.tmp 15)=.int .i64 0) (hb:Below w0.heap.size w0 w):(Code.loop (smBody 9)).wp prog Q0 a w:=by
 have hkey:=((keyM_iff m n).1 hC.key).2.2.2.2.2.2.2.2.2.2
 have hle:=sl_le hC.ok1.cu
 refine wp_loop (λa wr=>Fz b1 a/\∃j:Nat,a.eval (.tmp 15)=.int .i64 j/\j<=m.cu.l.length/\Below w0.heap.size w0 wr) (λa _=>m.cu.l.length-(intOf (a.eval (.tmp 15))).toNat) ⟨hf,0,h4,by omega,hb⟩ ?_
 clear hf h4 hb a w
 rintro a wr ⟨hf,j,h6,hj,hbel⟩
 obtain⟨f,rfl,h2,h3,h4,h5⟩:=sl_open hf h6
 clear hf h6
 have hc0:wr.cell? ⟨b1,10,none⟩=some (.slice m.cu.A m.cu.l.length m.cu.c):=hC.d0 hbel (by omega) rfl
 by_cases hlt:j<m.cu.l.length
 ·
  obtain⟨p1,o1,x,hA1,hx,hb1,hok1,hcell1⟩:=hC.ok1.cu.at_ hlt
  have hlt2:j<n.cu.l.length:=by rw[key_len kCu hkey];exact hlt
  obtain⟨p2,o2,y,hA2,hy,hb2,hok2,hcell2⟩:=hC.ok2.cu.at_ hlt2
  obtain⟨_,⟨_,A3,c3⟩⟩:=y
  have hkk:=key_at kCu hkey hx hy
  simp only[kCu,Prod.mk.injEq]at hkk
  obtain⟨rfl,rfl⟩:=hkk
  have HC:=hid hC
  clear hkey hexit hC
  rw[hA1]at hc0
  conv=>arg 2;whnf
  unfold fz
  simp only[h2,h3,h4,h5]
  go_wp2_with fail
  refine gen_z 15 (v2:=.pointer (some ⟨b1,0,none⟩)) (v3:=.pointer (some ⟨b1+1,0,none⟩)) (v5:=.bool true) (vk:=.int .i64 j) _ rfl rfl rfl rfl rfl rfl ?_
  intro a hsz hd e2 e3 e5 e4
  refine region_vals 33 34 (WV ([tt1]++([tt1]++(sd b1 10 p1 o1 m.cu.l.length m.cu.c j 2 (sp p1 (o1+j * 2) [.inl (.string x.nm)])++(sd (b1+1) 10 p2 o2 n.cu.l.length n.cu.c j 2 (sp p2 (o2+j * 2) [.inl (.string x.nm)])++([tt1]++([tt1]++([tt1]++(sd b1 10 p1 o1 m.cu.l.length m.cu.c j 2 (sp p1 (o1+j * 2+1) [.inl (.slice x.bs.A x.bs.bs.length x.bs.c),.inl (.string ⟨x.bs.bs.toArray⟩)])++(sd (b1+1) 10 p2 o2 n.cu.l.length n.cu.c j 2 (sp p2 (o2+j * 2+1) [.inl (.slice A3 x.bs.bs.length c3),.inl (.string ⟨x.bs.bs.toArray⟩)])++([tt1]++([tt1])))))))))))) (λi=>i+430) a wr (by kernel_rfl) rfl (by omega) (by kernel_rfl) (by kernel_rfl) (by kernel_rfl) (by rw[hsz];kernel_rfl) WV.mono ?_ ?_
  ·
   intro i hi a1 w1 hB hV
   have hb:Below w0.heap.size w0 w1:=hbel.trans ((((zx wr.heap.size wr).drew).trans hB.below).mono hbel.size)
   obtain⟨z2,z3,z5,z4⟩:=sl_z hB e2 e3 e5 e4 (by omega) (by omega)
   have d0:w1.cell? ⟨b1,10,none⟩=some (.slice m.cu.A m.cu.l.length m.cu.c):=HC.out.d0 hb (by omega) rfl
   have d1:w1.cell? ⟨b1+1,10,none⟩=some (.slice n.cu.A n.cu.l.length n.cu.c):=HC.out.d1 hb (by omega) rfl
   rw[hA1]at d0
   rw[hA2]at d1
   have u:=row_of hb hb1 hcell1
   have v:=row_of hb hb2 hcell2
   simp only[allC,Cu.cells,zi,qx,qz,Nat.reduceAdd,qe,and_true]at u v
   obtain⟨u0,u1⟩:=u
   obtain⟨v0,v1⟩:=v
   have hkx:=hok1.keep hb.size (Below.kp hb)
   have hky:=hok2.keep hb.size (Below.kp hb)
   have hcx:=run_str_of (P:=prog) 35 9 5 underlying35 underlying5 underlying9 hkx.bs.sl x.bs.c
   have hcy:=run_str_of (P:=prog) 35 9 5 underlying35 underlying5 underlying9 hky.bs.sl c3
   simp only at hcy
   clear hcell1 hcell2 hc0 hB hok1 hok2
   revert i
   repeat'(first|exact lt_zero|refine lt_step ?_ ?_)
   all_goals
    intro hV
    (try have k0:=kp 0 hV)
    (try have k1:=kp 1 hV)
    (try have k2:=kp 2 hV)
    (try simp only[Nat.reduceAdd]at k0)
    (try simp only[Nat.reduceAdd]at k1)
    (try simp only[Nat.reduceAdd]at k2)
    first
    |exact pv
    |exact gw hV
  ·
   intro a1 w1 hB hV
   have hbw:Below wr.heap.size wr w1:=((zx wr.heap.size wr).drew).trans hB.below
   have kz:=ev (show a1.eval (.tmp 462)=.bool true from hV 32 (by omega))
   clear hV
   refine ready_one (i:=33) (by kernel_rfl) rfl rfl (op_val (.bool true) (by go_simp) (ready_none (by kernel_rfl) ?_))
   refine sl_put (X:=λa=>Exit.inBlock _ _ _ a w1) hB hsz hd e2 e3 e4 (by omega) (by omega) (by omega) λf' F2 F3 F4 F5=>?_
   clear kz hB e2 e3 e4 e5 hsz hd a1 a
   unfold fz
   simp only[F2,F3,F4,F5]
   go_wp2_with fail
   refine⟨⟨⟨rfl,rfl,rfl,rfl,rfl⟩,j+1,by show Value.int .i64 _=_;go_num,by omega,hbel.trans (hbw.mono hbel.size)⟩,?_⟩
   show m.cu.l.length-(intOf (.int .i64 _)).toNat<m.cu.l.length-(intOf (.int .i64 _)).toNat
   simp[intOf]
   omega
 ·
  have HX:=hid (λa (hf:Fz b1 a)=>hexit a wr hf hbel)
  clear hexit hkey
  conv=>arg 2;whnf
  unfold fz
  simp only[h2,h3,h4,h5]
  go_wp2_with fail
  exact HX.out _ ⟨rfl,rfl,rfl,rfl,rfl⟩
end Go.Proofs.YteoijlfipmaoeaaGreatDoor
