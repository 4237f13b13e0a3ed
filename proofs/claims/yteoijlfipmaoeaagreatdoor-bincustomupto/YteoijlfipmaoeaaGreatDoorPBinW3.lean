import Derived.Test.YteoijlfipmaoeaaGreatDoorPBinW2
set_option linter.unusedVariables false
set_option linter.unusedSimpArgs false
set_option maxRecDepth 100000
set_option maxHeartbeats 64000000
namespace Go.Proofs.YteoijlfipmaoeaaGreatDoor
open Lib (hid)
open Go.RowKit Trx
open Go.Proofs.Tryz
theorem MBox.other{w:World}{X Y i:Nat}{m:Mo}{v:Value}(h:MBox w X m)(hne:Y≠X):MBox (w.setCell ⟨Y,i,none⟩ v) X m:=
 ⟨by simpa[World.setCell]using h.lt,λj x hj=>(zk _ _ _ _ (by first|(simp;done)|(simp;omega))).trans (h.cell j x hj),λj=>(za _ _ _ _).trans (h.fr j)⟩
theorem MBox.cs11{w:World}{b:Nat}{m:Mo}(h:MBox w b m):w.cell? ⟨b,0,none⟩=some m.ty.v/\w.cell? ⟨b,1,none⟩=some m.im.v/\w.cell? ⟨b,2,none⟩=some m.fn.v/\w.cell? ⟨b,3,none⟩=some m.ta.v/\w.cell? ⟨b,4,none⟩=some m.me.v/\w.cell? ⟨b,5,none⟩=some m.gl.v/\w.cell? ⟨b,6,none⟩=some m.ex.v/\w.cell? ⟨b,7,none⟩=some (.int .i64 m.st)/\w.cell? ⟨b,8,none⟩=some m.el.v/\w.cell? ⟨b,9,none⟩=some m.da.v/\w.cell? ⟨b,10,none⟩=some m.cu.v:=
 ⟨h.cell 0 _ rfl,h.cell 1 _ rfl,h.cell 2 _ rfl,h.cell 3 _ rfl,h.cell 4 _ rfl,h.cell 5 _ rfl,h.cell 6 _ rfl,h.cell 7 _ rfl,h.cell 8 _ rfl,h.cell 9 _ rfl,h.cell 10 _ rfl⟩
theorem MBox.put{w:World}{X i:Nat}{m m':Mo}{v:Value}(h:MBox w X m)(hi:i<11)(hc:m'.cells=m.cells.set i v):MBox (w.setCell ⟨X,i,none⟩ v) X m':=by
 refine⟨by simpa[World.setCell]using h.lt,λj x hj=>?_,λj=>(za _ _ _ _).trans (h.fr j)⟩
 rw[hc]at hj
 by_cases e:i=j
 ·
  subst e
  have hl:i<m.cells.length:=hi
  rw[List.getElem?_set_self hl]at hj
  injection hj with hj
  subst hj
  exact ze _ _ _ (h.cell i _ (zb hl))
 ·
  rw[List.getElem?_set_ne e]at hj
  exact(zk _ _ _ _ (by first|(simp;done)|(simp;omega))).trans (h.cell j x hj)
theorem Mo.ok.cut{w:World}{B:Nat}{m:Mo}(h:m.ok w B)(n:Nat)(hn:n<=m.cu.l.length):Mo.ok w B {m with cu:=⟨m.cu.l.take n,m.cu.A,m.cu.c⟩}:=
 ⟨h.ty,h.im,h.fn,h.ta,h.me,h.gl,h.ex,h.st,h.el,h.da,h.cu.take n hn⟩
theorem walk_BinCustom(m:Mo)(A:Option Addr)(c:Nat)(b:List UInt8)(w:World)(hm:m.ok w w.heap.size)(hcn:Cn m)(hs:Sl w w.heap.size A (u8s b))(hl:b.length<=c)(hcm:c<=maxLen)(hN:Nam w)(hE:Et w)(hT:U8T w):
  Calls prog 5 #[moA m,.slice A b.length c] w λe w'=>e=.returned (.bool true)/\Below w.heap.size w w':=by
 obtain⟨W0,hW0⟩:∃W:World,W=w.alloc (.cells #[.slice m.ty.A m.ty.l.length m.ty.c,.slice m.im.A m.im.l.length m.im.c,.slice m.fn.A m.fn.l.length m.fn.c,.slice m.ta.A m.ta.l.length m.ta.c,.slice m.me.A m.me.l.length m.me.c,.slice m.gl.A m.gl.l.length m.gl.c,.slice m.ex.A m.ex.l.length m.ex.c,.int .i64 m.st,.slice m.el.A m.el.l.length m.el.c,.slice m.da.A m.da.l.length m.da.c,.slice m.cu.A m.cu.l.length m.cu.c] 32):=⟨_,rfl⟩
 have HB0:Hid (Below w.heap.size w W0):=hid (by rw[hW0];exact(zx _ _).alloc (zq _) _)
 have HX0:Hid (MBox W0 w.heap.size m):=hid (by rw[hW0];exact MBox.new w m _ rfl _ _ rfl)
 have HU:=hid (λ(w':World) (hb:Below w.heap.size w w')=>up_any (hN.below hb) (hT.below hb) (hE.below hb))
 have HF:=hid (λ(w':World) (hb:Below w.heap.size w w')=>Few_any m w' (hm.below hb))
 have HM:=hid (λ(w':World) (hb:Below w.heap.size w w')=>hm.below hb)
 have HN:=hid (λ(w':World) (hb:Below w.heap.size w w')=>hN.below hb)
 have HEt:=hid (λ(w':World) (hb:Below w.heap.size w w')=>hE.below hb)
 have HT:=hid (λ(w':World) (hb:Below w.heap.size w w')=>hT.below hb)
 have HS:=hid (λ(w':World) (hb:Below w.heap.size w w')=>(hs.below hb).more hb.size)
 have HCn:=hid hcn
 have HLc:=hid (⟨hl,hcm⟩:b.length<=c/\c<=maxLen)
 refine postL λP hP=>?_
 have HP:=hid hP
 unfold moA at *
 clear hm hcn hs hl hcm hN hE hT hP
 go_enter func5,ntmps5
 go_wp2_with fail
 rw[<-hW0]
 clear hW0
 refine(HU.out _ HB0.out).mono ?_
 rintro e w1 ⟨rfl,hb1⟩
 have HB1:=hid (HB0.out.trans (hb1.mono HB0.out.size))
 have HX1:=hid (HX0.out.below hb1)
 obtain⟨y0,y1,y2,y3,y4,y5,y6,y7,y8,y9,y10⟩:=HX1.out.cs11
 clear hb1
 go_wp2_with fail
 refine(HF.out _ HB1.out).mono ?_
 rintro e w2 ⟨⟨fw,rfl⟩,hb2⟩
 have HB2:=hid (HB1.out.trans (hb2.mono HB1.out.size))
 have HX2:=hid (HX1.out.below hb2)
 clear y0 y1 y2 y3 y4 y5 y6 y7 y8 y9 y10
 clear hb2
 cases fw with
 |false=>
  go_wp2_with fail
  rw[<-HP.out]
  exact⟨rfl,HB2.out⟩
 |true=>
  obtain⟨y0,y1,y2,y3,y4,y5,y6,y7,y8,y9,y10⟩:=HX2.out.cs11
  by_cases h4:b.length<=100
  rotate_left
  ·
   have h4':((b.length:Int)>100):=by omega
   go_wp2_with fail
   rw[<-HP.out]
   exact⟨rfl,HB2.out⟩
  have h4':¬((b.length:Int)>100):=by omega
  by_cases h5:m.cu.l.length<=60
  rotate_left
  ·
   have h5':((m.cu.l.length:Int)>60):=by omega
   go_wp2_with fail
   rw[<-HP.out]
   exact⟨rfl,HB2.out⟩
  have h5':¬((m.cu.l.length:Int)>60):=by omega
  go_wp2_with fail
  clear y0 y1 y2 y3 y4 y5 y6 y7 y8 y9 y10
  cases hok:encOk m with
  |false=>
   refine(Encode_no (HM.out _ HB2.out) (HN.out _ HB2.out) (HT.out _ HB2.out) HCn.out hok).mono ?_
   rintro e w3 ⟨k,rfl,hb3⟩
   have HB3:=hid (HB2.out.trans (hb3.mono HB2.out.size))
   have HXm3:=hid (HX2.out.below hb3)
   clear hb3
   go_wp2_with fail
   rw[<-HP.out]
   exact⟨rfl,HB3.out⟩
  |true=>
   obtain⟨k1,k2,k3,k4⟩:=encOk_of (HM.out _ HB2.out) HCn.out hok
   refine(Encode_yes (HM.out _ HB2.out) (HN.out _ HB2.out) (HT.out _ HB2.out) HCn.out hok).mono ?_
   rintro e w3 ⟨g3,c3,rfl,hl3,hm3,hli3⟩
   have hb3:=hli3.below
   have HL3:=hid hli3
   have HC3:=hid (⟨hl3,hm3⟩:(encM m).length<=c3/\c3<=maxLen)
   have HB3:=hid (HB2.out.trans (hb3.mono HB2.out.size))
   have HXm3:=hid (HX2.out.below hb3)
   clear hb3 hli3 hl3 hm3
   have HLit:=hid (lit_x b.length h4)
   obtain⟨mo4,hmo4⟩:∃l:List UInt8,l=[0,UInt8.ofNat (b.length+2),1,120]++b:=⟨_,rfl⟩
   obtain⟨L6,hL6⟩:∃l:List UInt8,l=encM m++mo4:=⟨_,rfl⟩
   have hl4:mo4.length=b.length+4:=by rw[hmo4];simp
   have hl6:L6.length=(encM m).length+mo4.length:=by rw[hL6];simp
   have HM4:=hid hmo4
   have HM6:=hid hL6
   have Hn4:=hid hl4
   have Hn6:=hid hl6
   clear hmo4 hL6 hl4 hl6
   go_wp2_with(first
    |(at_builtin;refine wpl_bytes rfl (.tmp 44) (.tmp 45) rfl b rfl (HLit.out w3) rfl ((HS.out _ HB3.out).below ((zx _ _).alloc (zq _) _)) rfl (by have h1:=Hn4.out;first|omega|(simp only[zz,zl,zh];omega)) ?_;intro v4 w4 ho4 hk4;rw[<-HM4.out]at ho4;obtain⟨A4,c4,e4,-,hm4,hs4⟩:=ho4.parts;subst e4;have HS4:=hid hs4;have hb4:=ho4.below;have HB4:=hid (HB3.out.trans (hb4.mono HB3.out.size));have HX4:=hid (HXm3.out.below hb4);have HL4:=hid ((HL3.out.later hb4).sl);clear ho4 hk4 hs4 hm4 hb4)
    |(at_builtin;refine wpl_bytes rfl (.tmp 48) (.tmp 49) rfl (encM m) rfl (OwB.litS w4 [] (by decide) _ rfl) rfl (HL4.out.below ((zx _ _).alloc (zq _) _)) rfl (by have h1:=Hn4.out;first|omega|(simp only[zz,zl,zh];omega)) ?_;intro v5 w5 ho5 hk5;rw[qx]at ho5;obtain⟨A5,c5,e5,-,-,-⟩:=ho5.parts;subst e5;have HO5:=hid ho5;clear ho5 hk5)
    |(at_builtin;refine wpl_bytes rfl (.tmp 50) (.tmp 51) rfl mo4 rfl HO5.out rfl (HS4.out.below HO5.out.below) rfl (by have h1:=Hn4.out;first|omega|(simp only[zz,zl,zh];omega)) ?_;intro v6 w6 ho6 hk6;rw[<-HM6.out]at ho6;obtain⟨A6,c6,e6,hq6,hm6,hs6⟩:=ho6.parts;subst e6;have HS6:=hid hs6;have HC6:=hid (And.intro hq6 hm6);have hb6:=ho6.below;have HB6:=hid (HB4.out.trans (hb6.mono HB4.out.size));have HX6:=hid (HX4.out.below hb6);have HL6:=hid ((HL4.out.below hb6).more hb6.size);clear ho6 hk6 hs6 hq6 hm6 hb6))
   have hdx:=Bin.dec_x k1 k2 (by simp[Bin.ofK]) (by have:=k4;unfold encM at this;omega) (by simp[Bin.ofK,keyM];omega) h4
   have hdx':Bin.decD L6=some {Bin.ofK (keyM m)with cu:=(Bin.ofK (keyM m)).cu++[Bin.cuX b]}:=by rw[HM6.out,HM4.out];exact hdx
   refine(Decode_any (HN.out _ HB6.out) (HT.out _ HB6.out) (HEt.out _ HB6.out) HS6.out HC6.out.1 HC6.out.2 (by have h1:=Hn4.out;have h2:=Hn6.out;omega)).mono ?_
   rw[hdx']
   rintro e w7 ⟨hb7,m1,rfl,hkm1,hfm1⟩
   have HKm1:=hid hkm1
   have HOm1:=hid (hfm1 w7 (λ_ _ _=>rfl))
   have HB7:=hid (HB6.out.trans (hb7.mono HB6.out.size))
   have HXm7:=hid (HX6.out.below hb7)
   have hb7':=hb7
   clear hb7 hkm1 hfm1
   unfold moV
   obtain⟨w8,hw8⟩:∃W:World,W=w7.alloc (.cells #[.slice m1.ty.A m1.ty.l.length m1.ty.c,.slice m1.im.A m1.im.l.length m1.im.c,.slice m1.fn.A m1.fn.l.length m1.fn.c,.slice m1.ta.A m1.ta.l.length m1.ta.c,.slice m1.me.A m1.me.l.length m1.me.c,.slice m1.gl.A m1.gl.l.length m1.gl.c,.slice m1.ex.A m1.ex.l.length m1.ex.c,.int .i64 m1.st,.slice m1.el.A m1.el.l.length m1.el.c,.slice m1.da.A m1.da.l.length m1.da.c,.slice m1.cu.A m1.cu.l.length m1.cu.c] 32):=⟨_,rfl⟩
   have hb8:Below w7.heap.size w7 w8:=by rw[hw8];exact(zx _ _).alloc (zq _) _
   obtain⟨Xn,hXn⟩:∃x:Nat,x=w7.heap.size:=⟨_,rfl⟩
   have HXn8:Hid (MBox w8 Xn m1):=hid (by rw[hw8];exact MBox.new _ m1 _ rfl _ _ hXn)
   have HOm1':=hid (HOm1.out.below hb8)
   have HB8:=hid (HB7.out.trans (hb8.mono HB7.out.size))
   have HXm8:=hid (HXm7.out.below hb8)
   have HL8:=hid ((HL6.out.below (hb7'.trans (hb8.mono hb7'.size))).more (zy hb7'.size hb8.size))
   have hd12:Bin.decD (encM m++[12])=none:=Bin.dec_twelve _ k2 (by have:=k4;unfold encM at this;omega)
   obtain⟨L9,hL9⟩:∃l:List UInt8,l=encM m++[12]:=⟨_,rfl⟩
   have hl9:L9.length=(encM m).length+1:=by rw[hL9];simp
   rw[<-hL9]at hd12
   have HD12:=hid hd12
   have HL9:=hid hL9
   have Hn9:=hid hl9
   have HQ8:=hid hb8
   have HZ8:Hid (Xn+1=w8.heap.size):=hid (by rw[hw8,hXn];simp)
   have HXq:=hid (Nat.le_of_eq hXn.symm)
   clear hb7' hd12 hL9 hl9
   go_wp2_with(first
    |(at_builtin;rw[<-hw8,<-hXn];clear hw8 hb8 hXn;refine wpl_bytes rfl (.tmp 57) (.tmp 58) rfl (encM m) rfl (OwB.litS w8 [] (by decide) _ HZ8.out) rfl (HL8.out.below ((zx _ _).alloc (zq _) _)) rfl (by have h1:=Hn4.out;first|omega|(simp only[zz,zl,zh];omega)) ?_;intro v9 w9 ho9 hk9;rw[qx]at ho9;obtain⟨A9,c9,e9,-,-,-⟩:=ho9.parts;subst e9;have HO9:=hid ho9;clear ho9 hk9)
    |(at_builtin;refine wpl_bytes rfl (.tmp 59) (.tmp 60) rfl [12] rfl (HO9.out.later ((zx _ _).alloc (zq _) _)) rfl (Sl.newbyte w9 12 12 rfl _ _ rfl) rfl (by have h1:=Hn4.out;first|omega|(simp only[zz,zl,zh];omega)) ?_;intro v10 w10 ho10 hk10;rw[<-HL9.out]at ho10;obtain⟨A10,c10,e10,hq10,hm10,hs10⟩:=ho10.parts;subst e10;have HS10:=hid hs10;have HC10:=hid (And.intro hq10 hm10);have hb10:=ho10.below;have HB10:=hid (HB8.out.trans (hb10.mono HB8.out.size));have HQ10:=hid (HQ8.out.trans (hb10.mono HQ8.out.size));have HXm10:=hid (HXm8.out.below hb10);have HXn10:=hid (HXn8.out.below hb10);clear ho10 hk10 hs10 hq10 hm10 hb10))
   refine(Decode_any (HN.out _ HB10.out) (HT.out _ HB10.out) (HEt.out _ HB10.out) HS10.out HC10.out.1 HC10.out.2 (by have h1:=Hn9.out;omega)).mono ?_
   rw[HD12.out]
   rintro e w11 ⟨hb11,v,rfl,b9,o9,rfl⟩
   have HB11:=hid (HB10.out.trans (hb11.mono HB10.out.size))
   have HXm11:=hid (HXm10.out.below hb11)
   have HXn11:=hid (HXn10.out.below hb11)
   have HQ11:=hid (HQ10.out.trans (hb11.mono HQ10.out.size))
   clear hb11
   unfold moV mo0
   go_upto_region 11 with(fail)
   obtain⟨w12,hw12⟩:∃W:World,W=w11.alloc (.cells #[.slice none 0 0,.slice none 0 0,.slice none 0 0,.slice none 0 0,.slice none 0 0,.slice none 0 0,.slice none 0 0,.int .i64 0,.slice none 0 0,.slice none 0 0,.slice none 0 0] 32):=⟨_,rfl⟩
   have hb12:Below w11.heap.size w11 w12:=by rw[hw12];exact(zx _ _).alloc (zq _) _
   have HB12:=hid (HB11.out.trans (hb12.mono HB11.out.size))
   have HXm12:=hid (HXm11.out.below hb12)
   have HXn12:=hid (HXn11.out.below hb12)
   have HQ12:=hid (HQ11.out.trans (hb12.mono HQ11.out.size))
   rw[<-hw12]
   clear hw12 hb12
   have y10:w12.cell? ⟨w.heap.size,10,none⟩=some (.slice m.cu.A m.cu.l.length m.cu.c):=HXm12.out.cell 10 _ rfl
   have x10:w12.cell? ⟨Xn,10,none⟩=some (.slice m1.cu.A m1.cu.l.length m1.cu.c):=HXn12.out.cell 10 _ rfl
   have xf:=HXn12.out.fr 10
   have hlm:=HXm12.out.lt
   have hln:=HXn12.out.lt
   have hXmn:w.heap.size≠Xn:=by have h1:=HXm7.out.lt;have h2:=HXq.out;omega
   obtain⟨hcl,hcn,hck⟩:=cu_last HKm1.out
   obtain⟨bC,oC,aC,hAC,hxC,hbC,hokC,hcC⟩:=HOm1.out.cu.at_ (j:=m.cu.l.length) (by omega)
   obtain⟨hn1,hn2⟩:=hcn aC hxC
   have q0:w12.cell? ⟨bC,oC+m.cu.l.length * 2,none⟩=some (.string ⟨#[120]⟩):=by rw[<-hn1];exact(HQ12.out.cell (p:=⟨bC,_,none⟩) hbC).trans (hcC 0 (by omega))
   have q1:w12.cell? ⟨bC,oC+m.cu.l.length * 2+1,none⟩=some (.slice aC.bs.A b.length aC.bs.c):=by rw[<-hn2];exact(HQ12.out.cell (p:=⟨bC,_,none⟩) hbC).trans (hcC 1 (by omega))
   have hbC':=zj hbC HQ12.out.size
   have hs9:Sl w7 w7.heap.size aC.bs.A (u8s b):=by rw[<-hn2];exact hokC.bs.sl
   have HsC:=hid hs9
   have hcc:m.cu.l.length+1<=m1.cu.c:=by have:=HOm1.out.cu.le;omega
   obtain⟨M,hM⟩:∃M:Mo,M={m1 with cu:=⟨m1.cu.l.take m.cu.l.length,m1.cu.A,m1.cu.c⟩}:=⟨_,rfl⟩
   have HMk:Hid (keyM M=keyM m):=hid (by rw[hM];exact hck)
   have HMo:Hid (M.ok w7 w7.heap.size):=hid (by rw[hM];exact HOm1.out.cut _ (by omega))
   have HMc:Hid (M.cells=m1.cells.set 10 (.slice (some ⟨bC,oC,none⟩) m.cu.l.length m1.cu.c)):=hid (by
    have e:(m1.cu.l.take m.cu.l.length).length=m.cu.l.length:=by rw[qh];omega
    rw[hM]
    show[_,_,_,_,_,_,_,_,_,_,Value.slice m1.cu.A (m1.cu.l.take m.cu.l.length).length m1.cu.c]=_
    rw[e,hAC]
    rfl)
   rw[hAC,hcl]at x10
   have t2:IntKind.i64.wrap ((m.cu.l.length:Int)+1)=(m.cu.l.length:Int)+1:=by rw[IntWalk.i64_left];unfold wrap64;omega
   have t3:((((m.cu.l.length+1:Nat):Int)) != (m.cu.l.length:Int)+1)=false:=by simp
   clear hM hok hcl hcn hck hxC hbC hokC hcC hn1 hn2 hs9 hAC
   go_upto_region 15 with(fail)
   obtain⟨w13,hw13⟩:∃W:World,W=w12.setCell ⟨Xn,10,none⟩ (.slice (some ⟨bC,oC,none⟩) m.cu.l.length m1.cu.c):=⟨_,rfl⟩
   obtain⟨w14,hw14⟩:∃W:World,W=w13.alloc (.cells #[.string ⟨#[120]⟩,.slice aC.bs.A b.length aC.bs.c] 48):=⟨_,rfl⟩
   obtain⟨Xc,hXc⟩:∃x:Nat,x=w12.heap.size:=⟨_,rfl⟩
   have hs13:w13.heap.size=w12.heap.size:=by rw[hw13];simp[World.setCell]
   have HXm13:Hid (MBox w13 w.heap.size m):=hid (by rw[hw13];exact HXm12.out.other hXmn.symm)
   have HXn13:Hid (MBox w13 Xn M):=hid (by rw[hw13];exact HXn12.out.put (by omega) HMc.out)
   have HB13:Hid (Below w.heap.size w w13):=hid (by rw[hw13];exact HB12.out.setCell (p:=⟨Xn,10,none⟩) (by have h1:=HXm7.out.lt;have h2:=HXq.out;show w.heap.size<=Xn;omega) _)
   have HQ13:Hid (Below w7.heap.size w7 w13):=hid (by rw[hw13];exact HQ12.out.setCell (p:=⟨Xn,10,none⟩) HXq.out _)
   have hb14:Below w13.heap.size w13 w14:=by rw[hw14];exact(zx _ _).alloc (zq _) _
   have HB14:=hid (HB13.out.trans (hb14.mono HB13.out.size))
   have HXm14:=hid (HXm13.out.below hb14)
   have HXn14:=hid (HXn13.out.below hb14)
   have HQ14:=hid (HQ13.out.trans (hb14.mono HQ13.out.size))
   have z0:w14.cell? ⟨Xc,0,none⟩=some (.string ⟨#[120]⟩):=by rw[hw14,hXc,<-hs13,zv _ _ _ _ rfl];rfl
   have z1:w14.cell? ⟨Xc,1,none⟩=some (.slice aC.bs.A b.length aC.bs.c):=by rw[hw14,hXc,<-hs13,zv _ _ _ _ rfl];rfl
   have hXcl:Xc<w14.heap.size:=zn _ _ z0
   rw[<-hw13,<-hw14,<-hXc]
   clear hw13 hw14 hXc hb14 hs13 t2 t3 q0 q1 x10 y10 xf hlm hln hbC' hcc
   obtain⟨x0,x1,x2,x3,x4,x5,x6,x7,x8,x9,x10⟩:=HXn14.out.cs11
   obtain⟨y0,y1,y2,y3,y4,y5,y6,y7,y8,y9,y10⟩:=HXm14.out.cs11
   go_wp2_with fail
   clear x0 x1 x2 x3 x4 x5 x6 x7 x8 x9 x10
   clear y0 y1 y2 y3 y4 y5 y6 y7 y8 y9 y10
   refine(refSame_any M m w14 (HMo.out.below HQ14.out) (HM.out _ HB14.out) HMk.out).mono ?_
   rintro e w15 ⟨rfl,hb15⟩
   have HB15:=hid (HB14.out.trans (hb15.mono HB14.out.size))
   have HXm15:=hid (HXm14.out.below hb15)
   have HXn15:=hid (HXn14.out.below hb15)
   have HQ15:=hid (HQ14.out.trans (hb15.mono HQ14.out.size))
   have u0:=(hb15.cell (p:=⟨Xc,0,none⟩) hXcl).trans z0
   have u1:=(hb15.cell (p:=⟨Xc,1,none⟩) hXcl).trans z1
   have v1:=run_str_of (P:=prog) 35 9 5 underlying35 underlying5 underlying9 (HsC.out.below HQ15.out) aC.bs.c
   have v2:=run_str_of (P:=prog) 35 9 5 underlying35 underlying5 underlying9 (HS.out _ HB15.out) c
   clear hb15 z0 z1
   go_wp2_with fail
   rw[<-HP.out]
   exact⟨rfl,HB15.out⟩
end Go.Proofs.YteoijlfipmaoeaaGreatDoor
