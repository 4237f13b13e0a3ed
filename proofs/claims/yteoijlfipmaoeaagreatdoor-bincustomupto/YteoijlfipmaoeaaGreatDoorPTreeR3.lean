import Derived.Test.YteoijlfipmaoeaaGreatDoorPTreeRB
import Derived.Test.YteoijlfipmaoeaaGreatDoorPJ34
set_option linter.unusedVariables false
set_option linter.unusedSimpArgs false
set_option maxRecDepth 100000
set_option maxHeartbeats 16000000
namespace Go.Proofs.YteoijlfipmaoeaaGreatDoor
open Lib (hid)
open Go.RowKit Trx
open Go.Proofs.Tryz
theorem refSame_any(m n:Mo)(w:World)(hm:m.ok w w.heap.size)(hn:n.ok w w.heap.size)(hk:keyM m=keyM n):
  Calls prog 14 #[moV m,moV n] w λe w'=>e=.returned (.bool true)/\Below w.heap.size w w':=by
 obtain⟨k0,k1,k2,k3,k4,k5,k6,k7,k8,k9,k10⟩:=(keyM_iff m n).1 hk
 have l1:n.ty.l.length=m.ty.l.length:=key_len kTy k1
 have l2:n.im.l.length=m.im.l.length:=by rw[k2]
 have l3:n.fn.l.length=m.fn.l.length:=key_len kFn k3
 have l4:n.ta.l.length=m.ta.l.length:=by rw[k4]
 have l5:n.me.l.length=m.me.l.length:=by rw[k5]
 have l6:n.gl.l.length=m.gl.l.length:=key_len kGl k6
 have l7:n.ex.l.length=m.ex.l.length:=by rw[k7]
 have l8:n.el.l.length=m.el.l.length:=key_len kEl k8
 have l9:n.da.l.length=m.da.l.length:=key_len kDa k9
 have l10:n.cu.l.length=m.cu.l.length:=key_len kCu k10
 have HC:=hid (λ(w0:World) (hb:Below w.heap.size w w0) (h1:w.heap.size+1<w0.heap.size) (h2:∀i,w0.cell? ⟨w.heap.size,i,none⟩=#[.slice m.ty.A m.ty.l.length m.ty.c,.slice m.im.A m.im.l.length m.im.c,.slice m.fn.A m.fn.l.length m.fn.c,.slice m.ta.A m.ta.l.length m.ta.c,.slice m.me.A m.me.l.length m.me.c,.slice m.gl.A m.gl.l.length m.gl.c,.slice m.ex.A m.ex.l.length m.ex.c,.int .i64 m.st,.slice m.el.A m.el.l.length m.el.c,.slice m.da.A m.da.l.length m.da.c,.slice m.cu.A m.cu.l.length m.cu.c][i]?) (h3:∀i,w0.cell? ⟨w.heap.size+1,i,none⟩=#[.slice n.ty.A m.ty.l.length n.ty.c,.slice n.im.A m.im.l.length n.im.c,.slice n.fn.A m.fn.l.length n.fn.c,.slice n.ta.A m.ta.l.length n.ta.c,.slice n.me.A m.me.l.length n.me.c,.slice n.gl.A m.gl.l.length n.gl.c,.slice n.ex.A m.ex.l.length n.ex.c,.int .i64 m.st,.slice n.el.A m.el.l.length n.el.c,.slice n.da.A m.da.l.length n.da.c,.slice n.cu.A m.cu.l.length n.cu.c][i]?)=>
  (⟨h1,λi _=>by rw[h2 i];simp,λi _=>by rw[h3 i,k0,<-l1,<-l2,<-l3,<-l4,<-l5,<-l6,<-l7,<-l8,<-l9,<-l10];simp,hm.below hb,hn.below hb,hk⟩:SmC m n w0 w.heap.size))
 unfold moV
 rw[l1,l2,l3,l4,l5,l6,l7,l8,l9,l10,<-k0]
 have m1:m.ty.l.length<=9223372036854775807:=by have:=zy hm.ty.le hm.ty.c;unfold maxLen at this;exact this
 have m2:m.im.l.length<=9223372036854775807:=by have:=zy hm.im.le hm.im.c;unfold maxLen at this;exact this
 have m3:m.fn.l.length<=9223372036854775807:=by have:=zy hm.fn.le hm.fn.c;unfold maxLen at this;exact this
 have m4:m.ta.l.length<=9223372036854775807:=by have:=zy hm.ta.le hm.ta.c;unfold maxLen at this;exact this
 have m5:m.me.l.length<=9223372036854775807:=by have:=zy hm.me.le hm.me.c;unfold maxLen at this;exact this
 have m6:m.gl.l.length<=9223372036854775807:=by have:=zy hm.gl.le hm.gl.c;unfold maxLen at this;exact this
 have m7:m.ex.l.length<=9223372036854775807:=by have:=zy hm.ex.le hm.ex.c;unfold maxLen at this;exact this
 have m8:m.el.l.length<=9223372036854775807:=by have:=zy hm.el.le hm.el.c;unfold maxLen at this;exact this
 have m9:m.da.l.length<=9223372036854775807:=by have:=zy hm.da.le hm.da.c;unfold maxLen at this;exact this
 have m10:m.cu.l.length<=9223372036854775807:=by have:=zy hm.cu.le hm.cu.c;unfold maxLen at this;exact this
 have HST:=hid hm.st
 clear hm hn hk k0 k1 k2 k3 k4 k5 k6 k7 k8 k9 k10 l1 l2 l3 l4 l5 l6 l7 l8 l9 l10
 go_enter func14,ntmps14
 go_wp2_with fail
 obtain⟨hx1,hx2,hx3,hx4⟩:=two_box (w:=w) (c:=#[.slice m.ty.A m.ty.l.length m.ty.c,.slice m.im.A m.im.l.length m.im.c,.slice m.fn.A m.fn.l.length m.fn.c,.slice m.ta.A m.ta.l.length m.ta.c,.slice m.me.A m.me.l.length m.me.c,.slice m.gl.A m.gl.l.length m.gl.c,.slice m.ex.A m.ex.l.length m.ex.c,.int .i64 m.st,.slice m.el.A m.el.l.length m.el.c,.slice m.da.A m.da.l.length m.da.c,.slice m.cu.A m.cu.l.length m.cu.c]) (d:=#[.slice n.ty.A m.ty.l.length n.ty.c,.slice n.im.A m.im.l.length n.im.c,.slice n.fn.A m.fn.l.length n.fn.c,.slice n.ta.A m.ta.l.length n.ta.c,.slice n.me.A m.me.l.length n.me.c,.slice n.gl.A m.gl.l.length n.gl.c,.slice n.ex.A m.ex.l.length n.ex.c,.int .i64 m.st,.slice n.el.A m.el.l.length n.el.c,.slice n.da.A m.da.l.length n.da.c,.slice n.cu.A m.cu.l.length n.cu.c]) (t:=32) (u:=32) (zx _ _)
 have hC:=HC.out _ hx4 hx1 hx2 hx3
 generalize((w.alloc (.cells #[.slice m.ty.A m.ty.l.length m.ty.c,.slice m.im.A m.im.l.length m.im.c,.slice m.fn.A m.fn.l.length m.fn.c,.slice m.ta.A m.ta.l.length m.ta.c,.slice m.me.A m.me.l.length m.me.c,.slice m.gl.A m.gl.l.length m.gl.c,.slice m.ex.A m.ex.l.length m.ex.c,.int .i64 m.st,.slice m.el.A m.el.l.length m.el.c,.slice m.da.A m.da.l.length m.da.c,.slice m.cu.A m.cu.l.length m.cu.c] 32)).alloc (.cells #[.slice n.ty.A m.ty.l.length n.ty.c,.slice n.im.A m.im.l.length n.im.c,.slice n.fn.A m.fn.l.length n.fn.c,.slice n.ta.A m.ta.l.length n.ta.c,.slice n.me.A m.me.l.length n.me.c,.slice n.gl.A m.gl.l.length n.gl.c,.slice n.ex.A m.ex.l.length n.ex.c,.int .i64 m.st,.slice n.el.A m.el.l.length n.el.c,.slice n.da.A m.da.l.length n.da.c,.slice n.cu.A m.cu.l.length n.cu.c] 32))=w0 at hx1 hx2 hx3 hx4 hC⊢
 have HX:=hid hx4
 clear hx1 hx2 hx3 hx4 HC
 refine sloop_ty m n w0 _ hC _ ?_ _ _ ⟨rfl,rfl,rfl,rfl,rfl⟩ rfl (zx _ _)
 intro a wr hf hbel
 have F2:(λi=>a.eval (.tmp i)) 2=.pointer (some ⟨w.heap.size,0,none⟩):=hf.e2
 have F3:(λi=>a.eval (.tmp i)) 3=.pointer (some ⟨w.heap.size+1,0,none⟩):=hf.e3
 have F5:(λi=>a.eval (.tmp i)) 5=.bool true:=hf.e5
 rw[fz_of a hf.size hf.defers]
 generalize(λi=>a.eval (.tmp i))=f at F2 F3 F5⊢
 clear hf a
 unfold fz
 simp only[F2,F3,F5]
 go_wp2_with fail
 refine sloop_im m n w0 _ hC _ ?_ _ _ ⟨rfl,rfl,rfl,rfl,rfl⟩ rfl hbel
 clear F2 F3 F5 f hbel wr
 intro a wr hf hbel
 have F2:(λi=>a.eval (.tmp i)) 2=.pointer (some ⟨w.heap.size,0,none⟩):=hf.e2
 have F3:(λi=>a.eval (.tmp i)) 3=.pointer (some ⟨w.heap.size+1,0,none⟩):=hf.e3
 have F5:(λi=>a.eval (.tmp i)) 5=.bool true:=hf.e5
 rw[fz_of a hf.size hf.defers]
 generalize(λi=>a.eval (.tmp i))=f at F2 F3 F5⊢
 clear hf a
 unfold fz
 simp only[F2,F3,F5]
 go_wp2_with fail
 refine sloop_fn m n w0 _ hC _ ?_ _ _ ⟨rfl,rfl,rfl,rfl,rfl⟩ rfl hbel
 clear F2 F3 F5 f hbel wr
 intro a wr hf hbel
 have F2:(λi=>a.eval (.tmp i)) 2=.pointer (some ⟨w.heap.size,0,none⟩):=hf.e2
 have F3:(λi=>a.eval (.tmp i)) 3=.pointer (some ⟨w.heap.size+1,0,none⟩):=hf.e3
 have F5:(λi=>a.eval (.tmp i)) 5=.bool true:=hf.e5
 rw[fz_of a hf.size hf.defers]
 generalize(λi=>a.eval (.tmp i))=f at F2 F3 F5⊢
 clear hf a
 unfold fz
 simp only[F2,F3,F5]
 go_wp2_with fail
 refine sloop_ta m n w0 _ hC _ ?_ _ _ ⟨rfl,rfl,rfl,rfl,rfl⟩ rfl hbel
 clear F2 F3 F5 f hbel wr
 intro a wr hf hbel
 have F2:(λi=>a.eval (.tmp i)) 2=.pointer (some ⟨w.heap.size,0,none⟩):=hf.e2
 have F3:(λi=>a.eval (.tmp i)) 3=.pointer (some ⟨w.heap.size+1,0,none⟩):=hf.e3
 have F5:(λi=>a.eval (.tmp i)) 5=.bool true:=hf.e5
 rw[fz_of a hf.size hf.defers]
 generalize(λi=>a.eval (.tmp i))=f at F2 F3 F5⊢
 clear hf a
 unfold fz
 simp only[F2,F3,F5]
 go_wp2_with fail
 refine sloop_me m n w0 _ hC _ ?_ _ _ ⟨rfl,rfl,rfl,rfl,rfl⟩ rfl hbel
 clear F2 F3 F5 f hbel wr
 intro a wr hf hbel
 have F2:(λi=>a.eval (.tmp i)) 2=.pointer (some ⟨w.heap.size,0,none⟩):=hf.e2
 have F3:(λi=>a.eval (.tmp i)) 3=.pointer (some ⟨w.heap.size+1,0,none⟩):=hf.e3
 have F5:(λi=>a.eval (.tmp i)) 5=.bool true:=hf.e5
 rw[fz_of a hf.size hf.defers]
 generalize(λi=>a.eval (.tmp i))=f at F2 F3 F5⊢
 clear hf a
 unfold fz
 simp only[F2,F3,F5]
 go_wp2_with fail
 refine sloop_gl m n w0 _ hC _ ?_ _ _ ⟨rfl,rfl,rfl,rfl,rfl⟩ rfl hbel
 clear F2 F3 F5 f hbel wr
 intro a wr hf hbel
 have F2:(λi=>a.eval (.tmp i)) 2=.pointer (some ⟨w.heap.size,0,none⟩):=hf.e2
 have F3:(λi=>a.eval (.tmp i)) 3=.pointer (some ⟨w.heap.size+1,0,none⟩):=hf.e3
 have F5:(λi=>a.eval (.tmp i)) 5=.bool true:=hf.e5
 rw[fz_of a hf.size hf.defers]
 generalize(λi=>a.eval (.tmp i))=f at F2 F3 F5⊢
 clear hf a
 unfold fz
 simp only[F2,F3,F5]
 go_wp2_with fail
 refine sloop_ex m n w0 _ hC _ ?_ _ _ ⟨rfl,rfl,rfl,rfl,rfl⟩ rfl hbel
 clear F2 F3 F5 f hbel wr
 intro a wr hf hbel
 have F2:(λi=>a.eval (.tmp i)) 2=.pointer (some ⟨w.heap.size,0,none⟩):=hf.e2
 have F3:(λi=>a.eval (.tmp i)) 3=.pointer (some ⟨w.heap.size+1,0,none⟩):=hf.e3
 have F5:(λi=>a.eval (.tmp i)) 5=.bool true:=hf.e5
 rw[fz_of a hf.size hf.defers]
 generalize(λi=>a.eval (.tmp i))=f at F2 F3 F5⊢
 clear hf a
 unfold fz
 simp only[F2,F3,F5]
 go_wp2_with fail
 refine sloop_el m n w0 _ hC _ ?_ _ _ ⟨rfl,rfl,rfl,rfl,rfl⟩ rfl hbel
 clear F2 F3 F5 f hbel wr
 intro a wr hf hbel
 have F2:(λi=>a.eval (.tmp i)) 2=.pointer (some ⟨w.heap.size,0,none⟩):=hf.e2
 have F3:(λi=>a.eval (.tmp i)) 3=.pointer (some ⟨w.heap.size+1,0,none⟩):=hf.e3
 have F5:(λi=>a.eval (.tmp i)) 5=.bool true:=hf.e5
 rw[fz_of a hf.size hf.defers]
 generalize(λi=>a.eval (.tmp i))=f at F2 F3 F5⊢
 clear hf a
 unfold fz
 simp only[F2,F3,F5]
 go_wp2_with fail
 refine sloop_da m n w0 _ hC _ ?_ _ _ ⟨rfl,rfl,rfl,rfl,rfl⟩ rfl hbel
 clear F2 F3 F5 f hbel wr
 intro a wr hf hbel
 have F2:(λi=>a.eval (.tmp i)) 2=.pointer (some ⟨w.heap.size,0,none⟩):=hf.e2
 have F3:(λi=>a.eval (.tmp i)) 3=.pointer (some ⟨w.heap.size+1,0,none⟩):=hf.e3
 have F5:(λi=>a.eval (.tmp i)) 5=.bool true:=hf.e5
 rw[fz_of a hf.size hf.defers]
 generalize(λi=>a.eval (.tmp i))=f at F2 F3 F5⊢
 clear hf a
 unfold fz
 simp only[F2,F3,F5]
 go_wp2_with fail
 refine sloop_cu m n w0 _ hC _ ?_ _ _ ⟨rfl,rfl,rfl,rfl,rfl⟩ rfl hbel
 clear F2 F3 F5 f hbel wr
 intro a wr hf hbel
 have F5:(λi=>a.eval (.tmp i)) 5=.bool true:=hf.e5
 rw[fz_of a hf.size hf.defers]
 generalize(λi=>a.eval (.tmp i))=f at F5⊢
 clear hf a
 unfold fz
 simp only[F5]
 go_wp2_with fail
 go_ret
 exact⟨rfl,HX.out.trans (hbel.mono HX.out.size)⟩
end Go.Proofs.YteoijlfipmaoeaaGreatDoor
