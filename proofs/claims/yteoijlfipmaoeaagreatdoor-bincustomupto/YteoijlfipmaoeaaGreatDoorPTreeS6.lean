import Derived.Test.YteoijlfipmaoeaaGreatDoorPJ12
set_option linter.unusedVariables false
set_option linter.unusedSimpArgs false
set_option maxRecDepth 100000
set_option maxHeartbeats 40000000
namespace Go.Proofs.YteoijlfipmaoeaaGreatDoor
open Lib (hid)
open Go.RowKit Trx
open Go.Proofs.Tryz
structure KeyM where
 st:Int
 ty:List (List Int×List Int)
 im:List Im
 fn:List (Int×List Int×Fo)
 ta:List Lm
 me:List Lm
 gl:List (Int×Bool×Nd)
 ex:List Ex
 el:List (Nd×List Int)
 da:List (Nd×List UInt8)
 cu:List (ByteArray×List UInt8)
def keyM(m:Mo):KeyM:=⟨m.st,m.ty.l.map kTy,m.im.l,m.fn.l.map kFn,m.ta.l,m.me.l,m.gl.l.map kGl,m.ex.l,m.el.l.map kEl,m.da.l.map kDa,m.cu.l.map kCu⟩
theorem keyM_iff(m n:Mo):keyM m=keyM n↔m.st=n.st/\m.ty.l.map kTy=n.ty.l.map kTy/\m.im.l=n.im.l/\m.fn.l.map kFn=n.fn.l.map kFn/\m.ta.l=n.ta.l/\m.me.l=n.me.l/\m.gl.l.map kGl=n.gl.l.map kGl/\m.ex.l=n.ex.l/\m.el.l.map kEl=n.el.l.map kEl/\m.da.l.map kDa=n.da.l.map kDa/\m.cu.l.map kCu=n.cu.l.map kCu:=by
 simp only[keyM,KeyM.mk.injEq]
def Bxs(w:World)(c d:Array Value)(w1:World):Prop:=w.heap.size+1<w1.heap.size/\(∀i,w1.cell? ⟨w.heap.size,i,none⟩=c[i]?)/\(∀i,w1.cell? ⟨w.heap.size+1,i,none⟩=d[i]?)/\Below w.heap.size w w1
theorem Bxs.bel{w:World}{xs ys:Array Value}{w':World}(h:Bxs w xs ys w'):Below w.heap.size w w':=h.2.2.2
theorem Bxs.next{w w1 w2:World}{c d:Array Value}(h:Bxs w c d w1)(hb:Below w1.heap.size w1 w2):Bxs w c d w2:=by
 obtain⟨h1,h2,h3,h4⟩:=h
 exact⟨zj h1 hb.size,λi=>(hb.cell (p:=⟨w.heap.size,i,none⟩) (Nat.lt_of_succ_lt h1)).trans (h2 i),λi=>(hb.cell (p:=⟨w.heap.size+1,i,none⟩) h1).trans (h3 i),h4.trans (hb.mono h4.size)⟩
abbrev moV(m:Mo):Value:=.agg #[.slice m.ty.A m.ty.l.length m.ty.c,.slice m.im.A m.im.l.length m.im.c,.slice m.fn.A m.fn.l.length m.fn.c,.slice m.ta.A m.ta.l.length m.ta.c,.slice m.me.A m.me.l.length m.me.c,.slice m.gl.A m.gl.l.length m.gl.c,.slice m.ex.A m.ex.l.length m.ex.c,.int .i64 m.st,.slice m.el.A m.el.l.length m.el.c,.slice m.da.A m.da.l.length m.da.c,.slice m.cu.A m.cu.l.length m.cu.c]
theorem Same_any(m n:Mo)(w:World)(hm:m.ok w w.heap.size)(hn:n.ok w w.heap.size):
  Calls prog 13 #[moV m,moV n] w (Tells (keyM m=keyM n) w):=by
 have H0:=hid (λw' (h:Below w.heap.size w w')=>eqLTy_any m.ty n.ty w' (hm.below h).ty (hn.below h).ty)
 have H1:=hid (λw' (h:Below w.heap.size w w')=>eqLIm_any m.im n.im w' (hm.below h).im (hn.below h).im)
 have H2:=hid (λw' (h:Below w.heap.size w w')=>eqLFn_any m.fn n.fn w' (hm.below h).fn (hn.below h).fn)
 have H3:=hid (λw' (h:Below w.heap.size w w')=>eqLLm_any m.ta n.ta w' (hm.below h).ta (hn.below h).ta)
 have H4:=hid (λw' (h:Below w.heap.size w w')=>eqLLm_any m.me n.me w' (hm.below h).me (hn.below h).me)
 have H5:=hid (λw' (h:Below w.heap.size w w')=>eqLGl_any m.gl n.gl w' (hm.below h).gl (hn.below h).gl)
 have H6:=hid (λw' (h:Below w.heap.size w w')=>eqLEx_any m.ex n.ex w' (hm.below h).ex (hn.below h).ex)
 have H7:=hid (λw' (h:Below w.heap.size w w')=>eqLEl_any m.el n.el w' (hm.below h).el (hn.below h).el)
 have H8:=hid (λw' (h:Below w.heap.size w w')=>eqLDa_any m.da n.da w' (hm.below h).da (hn.below h).da)
 have H9:=hid (λw' (h:Below w.heap.size w w')=>eqLCu_any m.cu n.cu w' (hm.below h).cu (hn.below h).cu)
 have HX:=hid (keyM_iff m n)
 clear hm hn
 by_cases hst:m.st=n.st
 ·
  have tz:(m.st==n.st)=true:=by simpa using hst
  have HS:=hid hst
  clear hst
  go_enter func13,ntmps13
  go_wp2_with(first
   |(go_at_call 36;((with_reducible refine(H0.out _ (((zx _ _).alloc (zq _) _).alloc (by simp) _)).mono ?_);rintro e w0 ⟨⟨b0,rfl,hb0⟩,hbel⟩;have HK0:=hid (show Bxs w #[.slice m.ty.A m.ty.l.length m.ty.c,.slice m.im.A m.im.l.length m.im.c,.slice m.fn.A m.fn.l.length m.fn.c,.slice m.ta.A m.ta.l.length m.ta.c,.slice m.me.A m.me.l.length m.me.c,.slice m.gl.A m.gl.l.length m.gl.c,.slice m.ex.A m.ex.l.length m.ex.c,.int .i64 m.st,.slice m.el.A m.el.l.length m.el.c,.slice m.da.A m.da.l.length m.da.c,.slice m.cu.A m.cu.l.length m.cu.c] #[.slice n.ty.A n.ty.l.length n.ty.c,.slice n.im.A n.im.l.length n.im.c,.slice n.fn.A n.fn.l.length n.fn.c,.slice n.ta.A n.ta.l.length n.ta.c,.slice n.me.A n.me.l.length n.me.c,.slice n.gl.A n.gl.l.length n.gl.c,.slice n.ex.A n.ex.l.length n.ex.c,.int .i64 n.st,.slice n.el.A n.el.l.length n.el.c,.slice n.da.A n.da.l.length n.da.c,.slice n.cu.A n.cu.l.length n.cu.c] w0 from two_box hbel);have c1:=HK0.out.2.1 1;have d1:=HK0.out.2.2.1 1;have hl0:=HK0.out.1;simp at c1 d1;have HP0:=hid hb0;clear hbel hb0))
   |(go_at_call 38;((with_reducible refine(H1.out _ HK0.out.bel).mono ?_);rintro e w1 ⟨⟨b1,rfl,hb1⟩,hbel⟩;have HK1:=hid (HK0.out.next hbel);have c2:=HK1.out.2.1 2;have d2:=HK1.out.2.2.1 2;have hl1:=HK1.out.1;simp at c2 d2;have HP1:=hid hb1;clear hbel hb1))
   |(go_at_call 39;((with_reducible refine(H2.out _ HK1.out.bel).mono ?_);rintro e w2 ⟨⟨b2,rfl,hb2⟩,hbel⟩;have HK2:=hid (HK1.out.next hbel);have c3:=HK2.out.2.1 3;have d3:=HK2.out.2.2.1 3;have hl2:=HK2.out.1;simp at c3 d3;have HP2:=hid hb2;clear hbel hb2))
   |(go_at_call 41;((with_reducible refine(H3.out _ HK2.out.bel).mono ?_);rintro e w3 ⟨⟨b3,rfl,hb3⟩,hbel⟩;have HK3:=hid (HK2.out.next hbel);have c4:=HK3.out.2.1 4;have d4:=HK3.out.2.2.1 4;have hl3:=HK3.out.1;simp at c4 d4;have HP3:=hid hb3;clear hbel hb3))
   |(go_at_call 41;((with_reducible refine(H4.out _ HK3.out.bel).mono ?_);rintro e w4 ⟨⟨b4,rfl,hb4⟩,hbel⟩;have HK4:=hid (HK3.out.next hbel);have c5:=HK4.out.2.1 5;have d5:=HK4.out.2.2.1 5;have hl4:=HK4.out.1;simp at c5 d5;have HP4:=hid hb4;clear hbel hb4))
   |(go_at_call 42;((with_reducible refine(H5.out _ HK4.out.bel).mono ?_);rintro e w5 ⟨⟨b5,rfl,hb5⟩,hbel⟩;have HK5:=hid (HK4.out.next hbel);have c6:=HK5.out.2.1 6;have d6:=HK5.out.2.2.1 6;have hl5:=HK5.out.1;simp at c6 d6;have HP5:=hid hb5;clear hbel hb5))
   |(go_at_call 44;((with_reducible refine(H6.out _ HK5.out.bel).mono ?_);rintro e w6 ⟨⟨b6,rfl,hb6⟩,hbel⟩;have HK6:=hid (HK5.out.next hbel);have c8:=HK6.out.2.1 8;have d8:=HK6.out.2.2.1 8;have hl6:=HK6.out.1;simp at c8 d8;have HP6:=hid hb6;clear hbel hb6))
   |(go_at_call 45;((with_reducible refine(H7.out _ HK6.out.bel).mono ?_);rintro e w7 ⟨⟨b7,rfl,hb7⟩,hbel⟩;have HK7:=hid (HK6.out.next hbel);have c9:=HK7.out.2.1 9;have d9:=HK7.out.2.2.1 9;have hl7:=HK7.out.1;simp at c9 d9;have HP7:=hid hb7;clear hbel hb7))
   |(go_at_call 47;((with_reducible refine(H8.out _ HK7.out.bel).mono ?_);rintro e w8 ⟨⟨b8,rfl,hb8⟩,hbel⟩;have HK8:=hid (HK7.out.next hbel);have c10:=HK8.out.2.1 10;have d10:=HK8.out.2.2.1 10;have hl8:=HK8.out.1;simp at c10 d10;have HP8:=hid hb8;clear hbel hb8))
   |(go_at_call 49;((with_reducible refine(H9.out _ HK8.out.bel).mono ?_);rintro e w9 ⟨⟨b9,rfl,hb9⟩,hbel⟩;have HK9:=hid (HK8.out.next hbel);have HP9:=hid hb9;clear hbel hb9)))
  all_goals
   go_ret
   first
   |exact Tells.mk_ _ (by rw[HX.out];have h:=HS.out;have p0:=HP0.out;have p1:=HP1.out;have p2:=HP2.out;have p3:=HP3.out;have p4:=HP4.out;have p5:=HP5.out;have p6:=HP6.out;have p7:=HP7.out;have p8:=HP8.out;have p9:=HP9.out;simp_all) HK9.out.bel
   |exact Tells.mk_ _ (by rw[HX.out];have h:=HS.out;have p0:=HP0.out;have p1:=HP1.out;have p2:=HP2.out;have p3:=HP3.out;have p4:=HP4.out;have p5:=HP5.out;have p6:=HP6.out;have p7:=HP7.out;have p8:=HP8.out;simp_all) HK8.out.bel
   |exact Tells.mk_ _ (by rw[HX.out];have h:=HS.out;have p0:=HP0.out;have p1:=HP1.out;have p2:=HP2.out;have p3:=HP3.out;have p4:=HP4.out;have p5:=HP5.out;have p6:=HP6.out;have p7:=HP7.out;simp_all) HK7.out.bel
   |exact Tells.mk_ _ (by rw[HX.out];have h:=HS.out;have p0:=HP0.out;have p1:=HP1.out;have p2:=HP2.out;have p3:=HP3.out;have p4:=HP4.out;have p5:=HP5.out;have p6:=HP6.out;simp_all) HK6.out.bel
   |exact Tells.mk_ _ (by rw[HX.out];have h:=HS.out;have p0:=HP0.out;have p1:=HP1.out;have p2:=HP2.out;have p3:=HP3.out;have p4:=HP4.out;have p5:=HP5.out;simp_all) HK5.out.bel
   |exact Tells.mk_ _ (by rw[HX.out];have h:=HS.out;have p0:=HP0.out;have p1:=HP1.out;have p2:=HP2.out;have p3:=HP3.out;have p4:=HP4.out;simp_all) HK4.out.bel
   |exact Tells.mk_ _ (by rw[HX.out];have h:=HS.out;have p0:=HP0.out;have p1:=HP1.out;have p2:=HP2.out;have p3:=HP3.out;simp_all) HK3.out.bel
   |exact Tells.mk_ _ (by rw[HX.out];have h:=HS.out;have p0:=HP0.out;have p1:=HP1.out;have p2:=HP2.out;simp_all) HK2.out.bel
   |exact Tells.mk_ _ (by rw[HX.out];have h:=HS.out;have p0:=HP0.out;have p1:=HP1.out;simp_all) HK1.out.bel
   |exact Tells.mk_ _ (by rw[HX.out];have h:=HS.out;have p0:=HP0.out;simp_all) HK0.out.bel
 ·
  have tz:(m.st==n.st)=false:=by simpa using hst
  have HS:=hid hst
  clear hst
  go_enter func13,ntmps13
  go_wp2_with fail
  go_ret
  exact Tells.mk_ _ (by rw[HX.out];have h:=HS.out;simp_all) (((zx _ _).alloc (zq _) _).alloc (by simp) _)
end Go.Proofs.YteoijlfipmaoeaaGreatDoor
