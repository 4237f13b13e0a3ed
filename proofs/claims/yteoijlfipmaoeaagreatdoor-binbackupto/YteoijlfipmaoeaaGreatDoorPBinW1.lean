import Derived.Test.YteoijlfipmaoeaaGreatDoorPJ30
import Derived.Test.YteoijlfipmaoeaaGreatDoorPTreeR3
set_option linter.unusedVariables false
set_option linter.unusedSimpArgs false
set_option maxRecDepth 100000
set_option maxHeartbeats 64000000
namespace Go.Proofs.YteoijlfipmaoeaaGreatDoor
open Lib (hid)
open Go.RowKit Trx
open Go.Proofs.Tryz
theorem dec_mo{bs:List UInt8}{d:Bin.Dm}{m:Mo}(h:Bin.decD bs=some d)(hk:keyM m=Bin.toK d):encOk m=true/\Cn m/\Bin.decD (encM m)=some (Bin.ofK (keyM m))/\(encM m).length<=bs.length/\(encM m).length<=90000000:=by
 obtain⟨h1,h2,h3,h4⟩:=Bin.dec_got h
 have e:Bin.ofK (keyM m)=d:=by rw[hk,Bin.ofK_toK d h3]
 have h5:=encOk_mk (m:=m) (by rw[e];exact h1) (by rw[e];exact h2)
 have h6:=Bin.encD_len _ h2
 refine⟨h5.1,h5.2,?_,by unfold encM;rw[e];exact h4,by unfold encM;rw[e];exact h6⟩
 unfold encM
 rw[e]
 exact Bin.dec_enc _ h1 h2 h3 (by omega)
section
variable{w:World}
theorem walk_BinBack(m:Mo)(A:Option Addr)(c:Nat)(b:List UInt8)(w:World)(hm:m.ok w w.heap.size)(hcn:Cn m)(hs:Sl w w.heap.size A (u8s b))(hl:b.length<=c)(hcm:c<=maxLen)(hN:Nam w)(hE:Et w)(hT:U8T w):
  Calls prog 4 #[moA m,.slice A b.length c] w λe w'=>e=.returned (.bool true)/\Below w.heap.size w w':=by
 obtain⟨W0,hW0⟩:∃W:World,W=w.alloc (.cells #[.slice m.ty.A m.ty.l.length m.ty.c,.slice m.im.A m.im.l.length m.im.c,.slice m.fn.A m.fn.l.length m.fn.c,.slice m.ta.A m.ta.l.length m.ta.c,.slice m.me.A m.me.l.length m.me.c,.slice m.gl.A m.gl.l.length m.gl.c,.slice m.ex.A m.ex.l.length m.ex.c,.int .i64 m.st,.slice m.el.A m.el.l.length m.el.c,.slice m.da.A m.da.l.length m.da.c,.slice m.cu.A m.cu.l.length m.cu.c] 32):=⟨_,rfl⟩
 have HB0:Hid (Below w.heap.size w W0):=hid (by rw[hW0];exact(zx _ _).alloc (zq _) _)
 have HX0:Hid (MBox W0 w.heap.size m):=hid (by rw[hW0];exact MBox.new w m _ rfl _ _ rfl)
 have HU:=hid (λ(w':World) (hb:Below w.heap.size w w')=>up_any (hN.below hb) (hT.below hb) (hE.below hb))
 have HF:=hid (λ(w':World) (hb:Below w.heap.size w w')=>Few_any m w' (hm.below hb))
 have HM:=hid (λ(w':World) (hb:Below w.heap.size w w')=>hm.below hb)
 have HN:=hid (λ(w':World) (hb:Below w.heap.size w w')=>hN.below hb)
 have HEt:=hid (λ(w':World) (hb:Below w.heap.size w w')=>hE.below hb)
 have HT:=hid (λ(w':World) (hb:Below w.heap.size w w')=>hT.below hb)
 have HS:=hid (λ(w':World) (hb:Below w.heap.size w w')=>(hs.below hb).more hb.size)
 have HCn:=hid hcn
 have HLc:=hid (⟨hl,hcm⟩:b.length<=c/\c<=maxLen)
 refine postL λP hP=>?_
 have HP:=hid hP
 unfold moA at *
 clear hm hcn hs hl hcm hN hE hT hP
 go_enter func4,ntmps4
 go_wp2_with fail
 rw[<-hW0]
 clear hW0
 refine(HU.out _ HB0.out).mono ?_
 rintro e w1 ⟨rfl,hb1⟩
 have HB1:=hid (HB0.out.trans (hb1.mono HB0.out.size))
 have HX1:=hid (HX0.out.below hb1)
 have y0:=HX1.out.cell 0 _ rfl
 have y1:=HX1.out.cell 1 _ rfl
 have y2:=HX1.out.cell 2 _ rfl
 have y3:=HX1.out.cell 3 _ rfl
 have y4:=HX1.out.cell 4 _ rfl
 have y5:=HX1.out.cell 5 _ rfl
 have y6:=HX1.out.cell 6 _ rfl
 have y7:=HX1.out.cell 7 _ rfl
 have y8:=HX1.out.cell 8 _ rfl
 have y9:=HX1.out.cell 9 _ rfl
 have y10:=HX1.out.cell 10 _ rfl
 clear hb1
 go_wp2_with fail
 refine(HF.out _ HB1.out).mono ?_
 rintro e w2 ⟨⟨fw,rfl⟩,hb2⟩
 have HB2:=hid (HB1.out.trans (hb2.mono HB1.out.size))
 have HX2:=hid (HX1.out.below hb2)
 clear y0 y1 y2 y3 y4 y5 y6 y7 y8 y9 y10
 clear hb2
 cases fw with
 |false=>
  go_wp2_with fail
  rw[<-HP.out]
  exact⟨rfl,HB2.out⟩
 |true=>
  by_cases h4:b.length<=4000
  rotate_left
  ·
   have h4':((b.length:Int)>4000):=by omega
   go_wp2_with fail
   rw[<-HP.out]
   exact⟨rfl,HB2.out⟩
  have h4':¬((b.length:Int)>4000):=by omega
  have y0:=HX2.out.cell 0 _ rfl
  have y1:=HX2.out.cell 1 _ rfl
  have y2:=HX2.out.cell 2 _ rfl
  have y3:=HX2.out.cell 3 _ rfl
  have y4:=HX2.out.cell 4 _ rfl
  have y5:=HX2.out.cell 5 _ rfl
  have y6:=HX2.out.cell 6 _ rfl
  have y7:=HX2.out.cell 7 _ rfl
  have y8:=HX2.out.cell 8 _ rfl
  have y9:=HX2.out.cell 9 _ rfl
  have y10:=HX2.out.cell 10 _ rfl
  go_wp2_with fail
  clear y0 y1 y2 y3 y4 y5 y6 y7 y8 y9 y10
  cases hok:encOk m with
  |false=>
   refine(Encode_no (HM.out _ HB2.out) (HN.out _ HB2.out) (HT.out _ HB2.out) HCn.out hok).mono ?_
   rintro e w3 ⟨k,rfl,hb3⟩
   have HB3:=hid (HB2.out.trans (hb3.mono HB2.out.size))
   have HXm3:=hid (HX2.out.below hb3)
   clear hb3
   go_wp2_with fail
   cases hd:Bin.decD b with
   |none=>
    refine(Decode_any (HN.out _ HB3.out) (HT.out _ HB3.out) (HEt.out _ HB3.out) (HS.out _ HB3.out) HLc.out.1 HLc.out.2 (by omega)).mono ?_
    rw[hd]
    rintro e w4 ⟨hb4,v,rfl,b9,o9,rfl⟩
    have HB4:=hid (HB3.out.trans (hb4.mono HB3.out.size))
    have HXm4:=hid (HXm3.out.below hb4)
    clear hb4
    unfold moV mo0
    go_wp2_with fail
    rw[<-HP.out]
    exact⟨rfl,HB4.out.alloc HB4.out.size _⟩
   |some d=>
    refine(Decode_any (HN.out _ HB3.out) (HT.out _ HB3.out) (HEt.out _ HB3.out) (HS.out _ HB3.out) HLc.out.1 HLc.out.2 (by omega)).mono ?_
    rw[hd]
    rintro e w4 ⟨hb4,m2,rfl,hkm2,hfm2⟩
    have HKm2:=hid hkm2
    have HOm2:=hid (hfm2 w4 (λ_ _ _=>rfl))
    have HB4:=hid (HB3.out.trans (hb4.mono HB3.out.size))
    have HXm4:=hid (HXm3.out.below hb4)
    clear hb4 hkm2 hfm2
    unfold moV
    obtain⟨w5,hw5⟩:∃W:World,W=w4.alloc (.cells #[.slice m2.ty.A m2.ty.l.length m2.ty.c,.slice m2.im.A m2.im.l.length m2.im.c,.slice m2.fn.A m2.fn.l.length m2.fn.c,.slice m2.ta.A m2.ta.l.length m2.ta.c,.slice m2.me.A m2.me.l.length m2.me.c,.slice m2.gl.A m2.gl.l.length m2.gl.c,.slice m2.ex.A m2.ex.l.length m2.ex.c,.int .i64 m2.st,.slice m2.el.A m2.el.l.length m2.el.c,.slice m2.da.A m2.da.l.length m2.da.c,.slice m2.cu.A m2.cu.l.length m2.cu.c] 32):=⟨_,rfl⟩
    have hb5:Below w4.heap.size w4 w5:=by rw[hw5];exact(zx _ _).alloc (zq _) _
    obtain⟨Xn,hXn⟩:∃x:Nat,x=w4.heap.size:=⟨_,rfl⟩
    have HXn5:Hid (MBox w5 Xn m2):=hid (by rw[hw5];exact MBox.new _ m2 _ rfl _ _ hXn)
    have HOm2':=hid (HOm2.out.below hb5)
    have HB5:=hid (HB4.out.trans (hb5.mono HB4.out.size))
    have HXm5:=hid (HXm4.out.below hb5)
    go_wp2_with fail
    rw[<-hw5,<-hXn]
    clear hw5 hb5 hXn
    obtain⟨e1,e2,e3,e4,e5⟩:=dec_mo hd HKm2.out
    refine(Encode_yes HOm2'.out (HN.out _ HB5.out) (HT.out _ HB5.out) e2 e1).mono ?_
    rintro e w6 ⟨g6,c6,rfl,hl6,hm6,hli6⟩
    have hb6:=hli6.below
    have HL6:=hid hli6
    have HC6:=hid (⟨hl6,hm6⟩:(encM m2).length<=c6/\c6<=maxLen)
    have HB6:=hid (HB5.out.trans (hb6.mono HB5.out.size))
    have HXm6:=hid (HXm5.out.below hb6)
    have HXn6:=hid (HXn5.out.below hb6)
    clear hb6 hli6 hl6 hm6
    go_wp2_with fail
    refine(Decode_any (HN.out _ HB6.out) (HT.out _ HB6.out) (HEt.out _ HB6.out) ((HL6.out.sl).more (zq _)) HC6.out.1 HC6.out.2 (by omega)).mono ?_
    rw[e3]
    rintro e w7 ⟨hb7,m3,rfl,hkm3,hfm3⟩
    have HKm3:=hid hkm3
    have HOm3:=hid (hfm3 w7 (λ_ _ _=>rfl))
    have HB7:=hid (HB6.out.trans (hb7.mono HB6.out.size))
    have HXm7:=hid (HXm6.out.below hb7)
    have HXn7:=hid (HXn6.out.below hb7)
    have hbq:=hb7
    clear hb7 hkm3 hfm3
    unfold moV
    obtain⟨w8,hw8⟩:∃W:World,W=w7.alloc (.cells #[.slice m3.ty.A m3.ty.l.length m3.ty.c,.slice m3.im.A m3.im.l.length m3.im.c,.slice m3.fn.A m3.fn.l.length m3.fn.c,.slice m3.ta.A m3.ta.l.length m3.ta.c,.slice m3.me.A m3.me.l.length m3.me.c,.slice m3.gl.A m3.gl.l.length m3.gl.c,.slice m3.ex.A m3.ex.l.length m3.ex.c,.int .i64 m3.st,.slice m3.el.A m3.el.l.length m3.el.c,.slice m3.da.A m3.da.l.length m3.da.c,.slice m3.cu.A m3.cu.l.length m3.cu.c] 32):=⟨_,rfl⟩
    have hb8:Below w7.heap.size w7 w8:=by rw[hw8];exact(zx _ _).alloc (zq _) _
    obtain⟨Xu,hXu⟩:∃x:Nat,x=w7.heap.size:=⟨_,rfl⟩
    have HXu8:Hid (MBox w8 Xu m3):=hid (by rw[hw8];exact MBox.new _ m3 _ rfl _ _ hXu)
    have HOm3':=hid (HOm3.out.below hb8)
    have HB8:=hid (HB7.out.trans (hb8.mono HB7.out.size))
    have HXm8:=hid (HXm7.out.below hb8)
    have HXn8:=hid (HXn7.out.below hb8)
    have hln7:=HXn7.out.lt
    have x0:=HXn7.out.cell 0 _ rfl
    have x1:=HXn7.out.cell 1 _ rfl
    have x2:=HXn7.out.cell 2 _ rfl
    have x3:=HXn7.out.cell 3 _ rfl
    have x4:=HXn7.out.cell 4 _ rfl
    have x5:=HXn7.out.cell 5 _ rfl
    have x6:=HXn7.out.cell 6 _ rfl
    have x7:=HXn7.out.cell 7 _ rfl
    have x8:=HXn7.out.cell 8 _ rfl
    have x9:=HXn7.out.cell 9 _ rfl
    have x10:=HXn7.out.cell 10 _ rfl
    have e4':((encM m2).length:Int)<=(b.length:Int):=by omega
    go_wp2_with fail
    rw[<-hw8]
    clear hw8 hXu
    clear x0 x1 x2 x3 x4 x5 x6 x7 x8 x9 x10
    have HOk:Hid (m2.ok w8 w8.heap.size):=hid (HOm2'.out.below ((HL6.out.below.trans (hbq.mono HL6.out.below.size)).trans (hb8.mono (by have h1:=HL6.out.below.size;have h2:=hbq.size;omega))))
    have hkey:keyM m3=keyM m2:=by rw[HKm3.out,Bin.toK_ofK]
    refine(refSame_any m3 m2 w8 HOm3'.out HOk.out hkey).mono ?_
    rintro e w9 ⟨rfl,hb9⟩
    have HB9:=hid (HB8.out.trans (hb9.mono HB8.out.size))
    have HXm9:=hid (HXm8.out.below hb9)
    have HXn9:=hid (HXn8.out.below hb9)
    have HXu9:=hid (HXu8.out.below hb9)
    clear hb9
    go_wp2_with fail
    rw[<-HP.out]
    exact⟨rfl,HB9.out⟩
  |true=>
   obtain⟨k1,k2,k3,k4⟩:=encOk_of (HM.out _ HB2.out) HCn.out hok
   refine(Encode_yes (HM.out _ HB2.out) (HN.out _ HB2.out) (HT.out _ HB2.out) HCn.out hok).mono ?_
   rintro e w3 ⟨g3,c3,rfl,hl3,hm3,hli3⟩
   have hb3:=hli3.below
   have HL3:=hid hli3
   have HC3:=hid (⟨hl3,hm3⟩:(encM m).length<=c3/\c3<=maxLen)
   have HB3:=hid (HB2.out.trans (hb3.mono HB2.out.size))
   have HXm3:=hid (HX2.out.below hb3)
   clear hb3 hli3 hl3 hm3
   go_wp2_with fail
   refine(Decode_any (HN.out _ HB3.out) (HT.out _ HB3.out) (HEt.out _ HB3.out) (HL3.out.sl) HC3.out.1 HC3.out.2 (by omega)).mono ?_
   rw[k3]
   rintro e w4 ⟨hb4,m1,rfl,hkm1,hfm1⟩
   have HKm1:=hid hkm1
   have HOm1:=hid (hfm1 w4 (λ_ _ _=>rfl))
   have HB4:=hid (HB3.out.trans (hb4.mono HB3.out.size))
   have HXm4:=hid (HXm3.out.below hb4)
   clear hb4 hkm1 hfm1
   unfold moV
   obtain⟨w5,hw5⟩:∃W:World,W=w4.alloc (.cells #[.slice m1.ty.A m1.ty.l.length m1.ty.c,.slice m1.im.A m1.im.l.length m1.im.c,.slice m1.fn.A m1.fn.l.length m1.fn.c,.slice m1.ta.A m1.ta.l.length m1.ta.c,.slice m1.me.A m1.me.l.length m1.me.c,.slice m1.gl.A m1.gl.l.length m1.gl.c,.slice m1.ex.A m1.ex.l.length m1.ex.c,.int .i64 m1.st,.slice m1.el.A m1.el.l.length m1.el.c,.slice m1.da.A m1.da.l.length m1.da.c,.slice m1.cu.A m1.cu.l.length m1.cu.c] 32):=⟨_,rfl⟩
   have hb5:Below w4.heap.size w4 w5:=by rw[hw5];exact(zx _ _).alloc (zq _) _
   obtain⟨Xk,hXk⟩:∃x:Nat,x=w4.heap.size:=⟨_,rfl⟩
   have HXk5:Hid (MBox w5 Xk m1):=hid (by rw[hw5];exact MBox.new _ m1 _ rfl _ _ hXk)
   have HOm1':=hid (HOm1.out.below hb5)
   have HB5:=hid (HB4.out.trans (hb5.mono HB4.out.size))
   have HXm5:=hid (HXm4.out.below hb5)
   have hlm4:=HXm4.out.lt
   have y0:=HXm4.out.cell 0 _ rfl
   have y1:=HXm4.out.cell 1 _ rfl
   have y2:=HXm4.out.cell 2 _ rfl
   have y3:=HXm4.out.cell 3 _ rfl
   have y4:=HXm4.out.cell 4 _ rfl
   have y5:=HXm4.out.cell 5 _ rfl
   have y6:=HXm4.out.cell 6 _ rfl
   have y7:=HXm4.out.cell 7 _ rfl
   have y8:=HXm4.out.cell 8 _ rfl
   have y9:=HXm4.out.cell 9 _ rfl
   have y10:=HXm4.out.cell 10 _ rfl
   go_wp2_with fail
   rw[<-hw5,<-hXk]
   clear hw5 hXk hb5
   clear y0 y1 y2 y3 y4 y5 y6 y7 y8 y9 y10
   have hkey:keyM m1=keyM m:=by rw[HKm1.out,Bin.toK_ofK]
   have HKy:=hid hkey
   refine(Same_any m1 m w5 HOm1'.out (HM.out _ HB5.out)).mono ?_
   rintro e w6 ⟨⟨bb,rfl,hbb⟩,hb6⟩
   have hbt:bb=true:=hbb.2 hkey
   subst hbt
   have HOm1q:=hid (HOm1'.out.below hb6)
   have HB6:=hid (HB5.out.trans (hb6.mono HB5.out.size))
   have HXm6:=hid (HXm5.out.below hb6)
   have HXk6:=hid (HXk5.out.below hb6)
   clear hb6 hbb hkey
   have y0:=HXm6.out.cell 0 _ rfl
   have y1:=HXm6.out.cell 1 _ rfl
   have y2:=HXm6.out.cell 2 _ rfl
   have y3:=HXm6.out.cell 3 _ rfl
   have y4:=HXm6.out.cell 4 _ rfl
   have y5:=HXm6.out.cell 5 _ rfl
   have y6:=HXm6.out.cell 6 _ rfl
   have y7:=HXm6.out.cell 7 _ rfl
   have y8:=HXm6.out.cell 8 _ rfl
   have y9:=HXm6.out.cell 9 _ rfl
   have y10:=HXm6.out.cell 10 _ rfl
   have x0:=HXk6.out.cell 0 _ rfl
   have x1:=HXk6.out.cell 1 _ rfl
   have x2:=HXk6.out.cell 2 _ rfl
   have x3:=HXk6.out.cell 3 _ rfl
   have x4:=HXk6.out.cell 4 _ rfl
   have x5:=HXk6.out.cell 5 _ rfl
   have x6:=HXk6.out.cell 6 _ rfl
   have x7:=HXk6.out.cell 7 _ rfl
   have x8:=HXk6.out.cell 8 _ rfl
   have x9:=HXk6.out.cell 9 _ rfl
   have x10:=HXk6.out.cell 10 _ rfl
   go_wp2_with fail
   clear y0 y1 y2 y3 y4 y5 y6 y7 y8 y9 y10
   clear x0 x1 x2 x3 x4 x5 x6 x7 x8 x9 x10
   refine(refSame_any m1 m w6 HOm1q.out (HM.out _ HB6.out) HKy.out).mono ?_
   rintro e w7 ⟨rfl,hb7⟩
   have HB7:=hid (HB6.out.trans (hb7.mono HB6.out.size))
   have HXm7:=hid (HXm6.out.below hb7)
   have HXk7:=hid (HXk6.out.below hb7)
   clear hb7
   go_wp2_with fail
   cases hd:Bin.decD b with
   |none=>
    refine(Decode_any (HN.out _ HB7.out) (HT.out _ HB7.out) (HEt.out _ HB7.out) (HS.out _ HB7.out) HLc.out.1 HLc.out.2 (by omega)).mono ?_
    rw[hd]
    rintro e w8 ⟨hb8,v,rfl,b9,o9,rfl⟩
    have HB8:=hid (HB7.out.trans (hb8.mono HB7.out.size))
    have HXm8:=hid (HXm7.out.below hb8)
    have HXk8:=hid (HXk7.out.below hb8)
    clear hb8
    unfold moV mo0
    go_wp2_with fail
    rw[<-HP.out]
    exact⟨rfl,HB8.out.alloc HB8.out.size _⟩
   |some d=>
    refine(Decode_any (HN.out _ HB7.out) (HT.out _ HB7.out) (HEt.out _ HB7.out) (HS.out _ HB7.out) HLc.out.1 HLc.out.2 (by omega)).mono ?_
    rw[hd]
    rintro e w8 ⟨hb8,m2,rfl,hkm2,hfm2⟩
    have HKm2:=hid hkm2
    have HOm2:=hid (hfm2 w8 (λ_ _ _=>rfl))
    have HB8:=hid (HB7.out.trans (hb8.mono HB7.out.size))
    have HXm8:=hid (HXm7.out.below hb8)
    have HXk8:=hid (HXk7.out.below hb8)
    clear hb8 hkm2 hfm2
    unfold moV
    obtain⟨w9,hw9⟩:∃W:World,W=w8.alloc (.cells #[.slice m2.ty.A m2.ty.l.length m2.ty.c,.slice m2.im.A m2.im.l.length m2.im.c,.slice m2.fn.A m2.fn.l.length m2.fn.c,.slice m2.ta.A m2.ta.l.length m2.ta.c,.slice m2.me.A m2.me.l.length m2.me.c,.slice m2.gl.A m2.gl.l.length m2.gl.c,.slice m2.ex.A m2.ex.l.length m2.ex.c,.int .i64 m2.st,.slice m2.el.A m2.el.l.length m2.el.c,.slice m2.da.A m2.da.l.length m2.da.c,.slice m2.cu.A m2.cu.l.length m2.cu.c] 32):=⟨_,rfl⟩
    have hb9:Below w8.heap.size w8 w9:=by rw[hw9];exact(zx _ _).alloc (zq _) _
    obtain⟨Xn,hXn⟩:∃x:Nat,x=w8.heap.size:=⟨_,rfl⟩
    have HXn9:Hid (MBox w9 Xn m2):=hid (by rw[hw9];exact MBox.new _ m2 _ rfl _ _ hXn)
    have HOm2':=hid (HOm2.out.below hb9)
    have HB9:=hid (HB8.out.trans (hb9.mono HB8.out.size))
    have HXm9:=hid (HXm8.out.below hb9)
    have HXk9:=hid (HXk8.out.below hb9)
    go_wp2_with fail
    rw[<-hw9,<-hXn]
    clear hw9 hb9 hXn
    obtain⟨e1,e2,e3,e4,e5⟩:=dec_mo hd HKm2.out
    refine(Encode_yes HOm2'.out (HN.out _ HB9.out) (HT.out _ HB9.out) e2 e1).mono ?_
    rintro e w10 ⟨g10,c10,rfl,hl10,hm10,hli10⟩
    have hb10:=hli10.below
    have HL10:=hid hli10
    have HC10:=hid (⟨hl10,hm10⟩:(encM m2).length<=c10/\c10<=maxLen)
    have HB10:=hid (HB9.out.trans (hb10.mono HB9.out.size))
    have HXm10:=hid (HXm9.out.below hb10)
    have HXk10:=hid (HXk9.out.below hb10)
    have HXn10:=hid (HXn9.out.below hb10)
    clear hb10 hli10 hl10 hm10
    go_wp2_with fail
    refine(Decode_any (HN.out _ HB10.out) (HT.out _ HB10.out) (HEt.out _ HB10.out) ((HL10.out.sl).more (zq _)) HC10.out.1 HC10.out.2 (by omega)).mono ?_
    rw[e3]
    rintro e w11 ⟨hb11,m3,rfl,hkm3,hfm3⟩
    have HKm3:=hid hkm3
    have HOm3:=hid (hfm3 w11 (λ_ _ _=>rfl))
    have HB11:=hid (HB10.out.trans (hb11.mono HB10.out.size))
    have HXm11:=hid (HXm10.out.below hb11)
    have HXk11:=hid (HXk10.out.below hb11)
    have HXn11:=hid (HXn10.out.below hb11)
    have hbq:=hb11
    clear hb11 hkm3 hfm3
    unfold moV
    obtain⟨w12,hw12⟩:∃W:World,W=w11.alloc (.cells #[.slice m3.ty.A m3.ty.l.length m3.ty.c,.slice m3.im.A m3.im.l.length m3.im.c,.slice m3.fn.A m3.fn.l.length m3.fn.c,.slice m3.ta.A m3.ta.l.length m3.ta.c,.slice m3.me.A m3.me.l.length m3.me.c,.slice m3.gl.A m3.gl.l.length m3.gl.c,.slice m3.ex.A m3.ex.l.length m3.ex.c,.int .i64 m3.st,.slice m3.el.A m3.el.l.length m3.el.c,.slice m3.da.A m3.da.l.length m3.da.c,.slice m3.cu.A m3.cu.l.length m3.cu.c] 32):=⟨_,rfl⟩
    have hb12:Below w11.heap.size w11 w12:=by rw[hw12];exact(zx _ _).alloc (zq _) _
    obtain⟨Xu,hXu⟩:∃x:Nat,x=w11.heap.size:=⟨_,rfl⟩
    have HXu12:Hid (MBox w12 Xu m3):=hid (by rw[hw12];exact MBox.new _ m3 _ rfl _ _ hXu)
    have HOm3':=hid (HOm3.out.below hb12)
    have HB12:=hid (HB11.out.trans (hb12.mono HB11.out.size))
    have HXm12:=hid (HXm11.out.below hb12)
    have HXk12:=hid (HXk11.out.below hb12)
    have HXn12:=hid (HXn11.out.below hb12)
    have hln11:=HXn11.out.lt
    have x0:=HXn11.out.cell 0 _ rfl
    have x1:=HXn11.out.cell 1 _ rfl
    have x2:=HXn11.out.cell 2 _ rfl
    have x3:=HXn11.out.cell 3 _ rfl
    have x4:=HXn11.out.cell 4 _ rfl
    have x5:=HXn11.out.cell 5 _ rfl
    have x6:=HXn11.out.cell 6 _ rfl
    have x7:=HXn11.out.cell 7 _ rfl
    have x8:=HXn11.out.cell 8 _ rfl
    have x9:=HXn11.out.cell 9 _ rfl
    have x10:=HXn11.out.cell 10 _ rfl
    have e4':((encM m2).length:Int)<=(b.length:Int):=by omega
    go_wp2_with fail
    rw[<-hw12]
    clear hw12 hXu
    clear x0 x1 x2 x3 x4 x5 x6 x7 x8 x9 x10
    have HOk:Hid (m2.ok w12 w12.heap.size):=hid (HOm2'.out.below ((HL10.out.below.trans (hbq.mono HL10.out.below.size)).trans (hb12.mono (by have h1:=HL10.out.below.size;have h2:=hbq.size;omega))))
    have hkey:keyM m3=keyM m2:=by rw[HKm3.out,Bin.toK_ofK]
    refine(refSame_any m3 m2 w12 HOm3'.out HOk.out hkey).mono ?_
    rintro e w13 ⟨rfl,hb13⟩
    have HB13:=hid (HB12.out.trans (hb13.mono HB12.out.size))
    have HXm13:=hid (HXm12.out.below hb13)
    have HXk13:=hid (HXk12.out.below hb13)
    have HXn13:=hid (HXn12.out.below hb13)
    have HXu13:=hid (HXu12.out.below hb13)
    clear hb13
    go_wp2_with fail
    rw[<-HP.out]
    exact⟨rfl,HB13.out⟩
end
end Go.Proofs.YteoijlfipmaoeaaGreatDoor
