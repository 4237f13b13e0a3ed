import Derived.Test.YteoijlfipmaoeaaGreatDoorPJ13
import Derived.Test.YteoijlfipmaoeaaGreatDoorPJ12
set_option linter.unusedVariables false
set_option linter.unusedSimpArgs false
set_option maxRecDepth 100000
set_option maxHeartbeats 8000000
namespace Go.Proofs.YteoijlfipmaoeaaGreatDoor
open Lib (hid)
open Go.RowKit Trx
open Go.Proofs.Tryz
theorem putIns_0(n:Nd)(p:Pl)(v:Value)(bs:List UInt8)(w0 w:World)(hN:Nam w0)(hk:knd n.op≠0)(hq:bh n.op (Opx.kd n.op)=0)(hl:bs.length+1<=70000000)(ho:OwB w0 w v bs):
  Calls prog 249 #[v,ndV n p] w (Wrote w0 w v (bs++[b8 n.op])):=by
 have hop:=knd_in hk
 have hb8:=b8_nat hk
 have hop0:=hop.1
 have hop1:=hop.2
 have HO:=hid ho
 have hnew:v.ownBlock≠some w.heap.size:=ho.new (zq _)
 have HNew:=hid hnew
 have HL:=hlook hN hk ho
 have HBh:=hid (λ(w:World) (nmv:ByteArray) (tv:Value) (g y:Int) (sv:Bool)=>behind_any n.op (Opx.kd n.op) g y nmv tv sv w)
 rw[hq]at HBh
 have HQ:=hid hq
 have HK:=hid hk
 clear ho hnew hN hop hq hk
 unfold Wrote
 obtain⟨x,hx⟩:∃x,x=b8 n.op:=⟨_,rfl⟩
 rw[<-hx]at hb8⊢
 clear hx
 go_enter func249,ntmps249
 go_wp2_with(first
  |(go_at_call 256;(with_reducible refine(HL.out _).mono ?_);rintro e w1 ⟨At,mt,ct,nmv,yv,sv,rfl,hb1⟩;obtain⟨f9,hX1,hbw1⟩:=nine_of hb1;obtain⟨b0,b1,b2,b3,b4,b5,b6,b7,b8⟩:=ca9 f9;have HF9:=hid f9;have HBw1:=hid hbw1;have hN1:=hid ((HO.out.later hbw1).new (zq _));clear hb1 f9 hbw1)
  |(at_builtin;refine wpl_bytes rfl (.tmp 13) (.tmp 17) rfl [x] rfl ((HO.out.later HBw1.out).later (((zx _ _).alloc (zq _) _).alloc (by simp) _)) rfl (Sl.newbyte _ _ _ hb8 _ _ (by simp)) rfl (by omega) ?_;intro v1 W2 ho2 hk2;obtain⟨h9,h7,hXs,hYs,hvX,hvY⟩:=keep_two hk2 HNew.out hN1.out HF9.out hX1;obtain⟨y0,y1,y2,y3,y4,y5,y6⟩:=ca7 h7;have HH9:=hid h9;have HO2:=hid ho2;have HvX:=hid hvX;have HvY:=hid hvY;have HK2:=hid ((((Kp.of_below (v:=v) HBw1.out).alloc _).alloc _).trans hk2);clear ho2 hk2 h9 h7 hvX hvY b0 b1 b2 b3 b4 b5 b6 b7 b8)
  |(go_at_call 260;(with_reducible refine(HBh.out _ _ _ _ _ _).mono ?_);rintro e w3 ⟨rfl,hb3⟩;have g9:=(λi=>(hb3.cell (p:=⟨w.heap.size,i,none⟩) hXs).trans (HH9.out i));obtain⟨m0,m1,m2,m3,m4,m5,m6,m7,m8⟩:=ca9 g9;have z4:=(hb3.cell (p:=⟨w1.heap.size,4,none⟩) hYs).trans y4;have HO3:=hid (HO2.out.later hb3);have HK3:=hid (HK2.out.trans (Kp.of_below hb3));have hX3:=zj hXs hb3.size;have hY3:=zj hYs hb3.size;clear hb3 g9 y0 y1 y2 y3 y4 y5 y6))
 go_ret
 refine⟨_,rfl,?_,HK3.out⟩
 have:=HO3.out
 simpa[zt]using this
theorem putIns_6(n:Nd)(p:Pl)(v:Value)(bs:List UInt8)(w0 w:World)(hN:Nam w0)(hk:knd n.op≠0)(hq:bh n.op (Opx.kd n.op)=6)(hl:bs.length+2<=70000000)(ho:OwB w0 w v bs):
  Calls prog 249 #[v,ndV n p] w (Wrote w0 w v (bs++(b8 n.op::[0]))):=by
 have hop:=knd_in hk
 have hb8:=b8_nat hk
 have hop0:=hop.1
 have hop1:=hop.2
 have HO:=hid ho
 have hnew:v.ownBlock≠some w.heap.size:=ho.new (zq _)
 have HNew:=hid hnew
 have HL:=hlook hN hk ho
 have HBh:=hid (λ(w:World) (nmv:ByteArray) (tv:Value) (g y:Int) (sv:Bool)=>behind_any n.op (Opx.kd n.op) g y nmv tv sv w)
 rw[hq]at HBh
 have HQ:=hid hq
 have HK:=hid hk
 clear ho hnew hN hop hq hk
 unfold Wrote
 obtain⟨x,hx⟩:∃x,x=b8 n.op:=⟨_,rfl⟩
 rw[<-hx]at hb8⊢
 clear hx
 go_enter func249,ntmps249
 go_wp2_with(first
  |(go_at_call 256;(with_reducible refine(HL.out _).mono ?_);rintro e w1 ⟨At,mt,ct,nmv,yv,sv,rfl,hb1⟩;obtain⟨f9,hX1,hbw1⟩:=nine_of hb1;obtain⟨b0,b1,b2,b3,b4,b5,b6,b7,b8⟩:=ca9 f9;have HF9:=hid f9;have HBw1:=hid hbw1;have hN1:=hid ((HO.out.later hbw1).new (zq _));clear hb1 f9 hbw1)
  |(at_builtin;refine wpl_bytes rfl (.tmp 13) (.tmp 17) rfl [x] rfl ((HO.out.later HBw1.out).later (((zx _ _).alloc (zq _) _).alloc (by simp) _)) rfl (Sl.newbyte _ _ _ hb8 _ _ (by simp)) rfl (by omega) ?_;intro v1 W2 ho2 hk2;obtain⟨h9,h7,hXs,hYs,hvX,hvY⟩:=keep_two hk2 HNew.out hN1.out HF9.out hX1;obtain⟨y0,y1,y2,y3,y4,y5,y6⟩:=ca7 h7;have HH9:=hid h9;have HO2:=hid ho2;have HvX:=hid hvX;have HvY:=hid hvY;have HK2:=hid ((((Kp.of_below (v:=v) HBw1.out).alloc _).alloc _).trans hk2);clear ho2 hk2 h9 h7 hvX hvY b0 b1 b2 b3 b4 b5 b6 b7 b8)
  |(go_at_call 260;(with_reducible refine(HBh.out _ _ _ _ _ _).mono ?_);rintro e w3 ⟨rfl,hb3⟩;have g9:=(λi=>(hb3.cell (p:=⟨w.heap.size,i,none⟩) hXs).trans (HH9.out i));obtain⟨m0,m1,m2,m3,m4,m5,m6,m7,m8⟩:=ca9 g9;have z4:=(hb3.cell (p:=⟨w1.heap.size,4,none⟩) hYs).trans y4;have HO3:=hid (HO2.out.later hb3);have HK3:=hid (HK2.out.trans (Kp.of_below hb3));have hX3:=zj hXs hb3.size;have hY3:=zj hYs hb3.size;clear hb3 g9 y0 y1 y2 y3 y4 y5 y6)
  |(at_builtin;refine wpl_bytes rfl (.tmp 57) (.tmp 58) rfl [0] rfl (HO3.out.later ((zx _ _).alloc (zq _) _)) rfl (Sl.newbyte _ _ _ rfl _ _ (by simp)) rfl (by simp only[zz,qg];omega) ?_;intro v4 W4 ho4 hk4;have HO4:=hid ho4;have HK4:=hid ((HK3.out.alloc _).trans hk4);clear ho4 hk4))
 go_ret
 refine⟨_,rfl,?_,HK4.out⟩
 have:=HO4.out
 simpa[zt]using this
theorem putIns_2(n:Nd)(p:Pl)(v:Value)(bs:List UInt8)(w0 w:World)(hN:Nam w0)(hk:knd n.op≠0)(hq:bh n.op (Opx.kd n.op)=2)(ha:0<=n.a/\n.a<=4294967295)(hl:bs.length+20<=70000000)(ho:OwB w0 w v bs):
  Calls prog 249 #[v,ndV n p] w (Wrote w0 w v (bs++(b8 n.op::eN n.a))):=by
 have hop:=knd_in hk
 have hb8:=b8_nat hk
 have hop0:=hop.1
 have hop1:=hop.2
 have HO:=hid ho
 have hnew:v.ownBlock≠some w.heap.size:=ho.new (zq _)
 have HNew:=hid hnew
 have HL:=hlook hN hk ho
 have HBh:=hid (λ(w:World) (nmv:ByteArray) (tv:Value) (g y:Int) (sv:Bool)=>behind_any n.op (Opx.kd n.op) g y nmv tv sv w)
 rw[hq]at HBh
 have HQ:=hid hq
 have HK:=hid hk
 have ha0:=ha.1
 have ha1:=ha.2
 clear ha
 clear ho hnew hN hop hq hk
 unfold Wrote
 obtain⟨x,hx⟩:∃x,x=b8 n.op:=⟨_,rfl⟩
 rw[<-hx]at hb8⊢
 clear hx
 go_enter func249,ntmps249
 go_wp2_with(first
  |(go_at_call 256;(with_reducible refine(HL.out _).mono ?_);rintro e w1 ⟨At,mt,ct,nmv,yv,sv,rfl,hb1⟩;obtain⟨f9,hX1,hbw1⟩:=nine_of hb1;obtain⟨b0,b1,b2,b3,b4,b5,b6,b7,b8⟩:=ca9 f9;have HF9:=hid f9;have HBw1:=hid hbw1;have hN1:=hid ((HO.out.later hbw1).new (zq _));clear hb1 f9 hbw1)
  |(at_builtin;refine wpl_bytes rfl (.tmp 13) (.tmp 17) rfl [x] rfl ((HO.out.later HBw1.out).later (((zx _ _).alloc (zq _) _).alloc (by simp) _)) rfl (Sl.newbyte _ _ _ hb8 _ _ (by simp)) rfl (by omega) ?_;intro v1 W2 ho2 hk2;obtain⟨h9,h7,hXs,hYs,hvX,hvY⟩:=keep_two hk2 HNew.out hN1.out HF9.out hX1;obtain⟨y0,y1,y2,y3,y4,y5,y6⟩:=ca7 h7;have HH9:=hid h9;have HO2:=hid ho2;have HvX:=hid hvX;have HvY:=hid hvY;have HK2:=hid ((((Kp.of_below (v:=v) HBw1.out).alloc _).alloc _).trans hk2);clear ho2 hk2 h9 h7 hvX hvY b0 b1 b2 b3 b4 b5 b6 b7 b8)
  |(go_at_call 260;(with_reducible refine(HBh.out _ _ _ _ _ _).mono ?_);rintro e w3 ⟨rfl,hb3⟩;have g9:=(λi=>(hb3.cell (p:=⟨w.heap.size,i,none⟩) hXs).trans (HH9.out i));obtain⟨m0,m1,m2,m3,m4,m5,m6,m7,m8⟩:=ca9 g9;have z4:=(hb3.cell (p:=⟨w1.heap.size,4,none⟩) hYs).trans y4;have HO3:=hid (HO2.out.later hb3);have HK3:=hid (HK2.out.trans (Kp.of_below hb3));have hX3:=zj hXs hb3.size;have hY3:=zj hYs hb3.size;clear hb3 g9 y0 y1 y2 y3 y4 y5 y6)
  |(go_at_call 262;(with_reducible refine(putNumber_any n.a _ _ w0 _ (by omega) (by omega) HO3.out (by simp only[zz,qg];omega)).mono ?_);rintro e W4 ⟨v4,rfl,ho4,hk4⟩;have HO4:=hid ho4;have HK4:=hid (HK3.out.trans hk4);clear ho4 hk4))
 go_ret
 refine⟨_,rfl,?_,HK4.out⟩
 have:=HO4.out
 simpa[zt]using this
theorem putIns_3(n:Nd)(p:Pl)(v:Value)(bs:List UInt8)(w0 w:World)(hN:Nam w0)(hk:knd n.op≠0)(hq:bh n.op (Opx.kd n.op)=3)(ha:0<=n.a/\n.a<=4294967295)(hl:bs.length+20<=70000000)(ho:OwB w0 w v bs):
  Calls prog 249 #[v,ndV n p] w (Wrote w0 w v (bs++(b8 n.op::(eN n.a++[0])))):=by
 have hop:=knd_in hk
 have hb8:=b8_nat hk
 have hop0:=hop.1
 have hop1:=hop.2
 have HO:=hid ho
 have hnew:v.ownBlock≠some w.heap.size:=ho.new (zq _)
 have HNew:=hid hnew
 have HL:=hlook hN hk ho
 have HBh:=hid (λ(w:World) (nmv:ByteArray) (tv:Value) (g y:Int) (sv:Bool)=>behind_any n.op (Opx.kd n.op) g y nmv tv sv w)
 rw[hq]at HBh
 have HQ:=hid hq
 have HK:=hid hk
 have ha0:=ha.1
 have ha1:=ha.2
 clear ha
 have h10:=eN_len n.a
 clear ho hnew hN hop hq hk
 unfold Wrote
 obtain⟨x,hx⟩:∃x,x=b8 n.op:=⟨_,rfl⟩
 rw[<-hx]at hb8⊢
 clear hx
 go_enter func249,ntmps249
 go_wp2_with(first
  |(go_at_call 256;(with_reducible refine(HL.out _).mono ?_);rintro e w1 ⟨At,mt,ct,nmv,yv,sv,rfl,hb1⟩;obtain⟨f9,hX1,hbw1⟩:=nine_of hb1;obtain⟨b0,b1,b2,b3,b4,b5,b6,b7,b8⟩:=ca9 f9;have HF9:=hid f9;have HBw1:=hid hbw1;have hN1:=hid ((HO.out.later hbw1).new (zq _));clear hb1 f9 hbw1)
  |(at_builtin;refine wpl_bytes rfl (.tmp 13) (.tmp 17) rfl [x] rfl ((HO.out.later HBw1.out).later (((zx _ _).alloc (zq _) _).alloc (by simp) _)) rfl (Sl.newbyte _ _ _ hb8 _ _ (by simp)) rfl (by omega) ?_;intro v1 W2 ho2 hk2;obtain⟨h9,h7,hXs,hYs,hvX,hvY⟩:=keep_two hk2 HNew.out hN1.out HF9.out hX1;obtain⟨y0,y1,y2,y3,y4,y5,y6⟩:=ca7 h7;have HH9:=hid h9;have HO2:=hid ho2;have HvX:=hid hvX;have HvY:=hid hvY;have HK2:=hid ((((Kp.of_below (v:=v) HBw1.out).alloc _).alloc _).trans hk2);clear ho2 hk2 h9 h7 hvX hvY b0 b1 b2 b3 b4 b5 b6 b7 b8)
  |(go_at_call 260;(with_reducible refine(HBh.out _ _ _ _ _ _).mono ?_);rintro e w3 ⟨rfl,hb3⟩;have g9:=(λi=>(hb3.cell (p:=⟨w.heap.size,i,none⟩) hXs).trans (HH9.out i));obtain⟨m0,m1,m2,m3,m4,m5,m6,m7,m8⟩:=ca9 g9;have z4:=(hb3.cell (p:=⟨w1.heap.size,4,none⟩) hYs).trans y4;have HO3:=hid (HO2.out.later hb3);have HK3:=hid (HK2.out.trans (Kp.of_below hb3));have hX3:=zj hXs hb3.size;have hY3:=zj hYs hb3.size;clear hb3 g9 y0 y1 y2 y3 y4 y5 y6)
  |(go_at_call 262;(with_reducible refine(putNumber_any n.a _ _ w0 _ (by omega) (by omega) HO3.out (by simp only[zz,qg];omega)).mono ?_);rintro e W4 ⟨v4,rfl,ho4,hk4⟩;have HO4:=hid ho4;have HK4:=hid (HK3.out.trans hk4);clear ho4 hk4)
  |(at_builtin;refine wpl_bytes rfl (.tmp 37) (.tmp 38) rfl [0] rfl (HO4.out.later ((zx _ _).alloc (zq _) _)) rfl (Sl.newbyte _ _ _ rfl _ _ (by simp)) rfl (by simp only[zz,qg];omega) ?_;intro v5 W5 ho5 hk5;have HO5:=hid ho5;have HK5:=hid ((HK4.out.alloc _).trans hk5);clear ho5 hk5))
 go_ret
 refine⟨_,rfl,?_,HK5.out⟩
 have:=HO5.out
 simpa[zt]using this
theorem putIns_5(n:Nd)(p:Pl)(v:Value)(bs:List UInt8)(w0 w:World)(hN:Nam w0)(hk:knd n.op≠0)(hq:bh n.op (Opx.kd n.op)=5)(hne:n.L≠[])(hn:n.L.all num32=true)(hL:Sl w0 w0.heap.size p.AL (n64s n.L))(hl:bs.length+10 * n.L.length+20<=70000000)(ho:OwB w0 w v bs):
  Calls prog 249 #[v,ndV n p] w (Wrote w0 w v (bs++(b8 n.op::(eN ((n.L.length:Int)-1)++n.L.flatMap eN)))):=by
 have hop:=knd_in hk
 have hb8:=b8_nat hk
 have hop0:=hop.1
 have hop1:=hop.2
 have HO:=hid ho
 have hnew:v.ownBlock≠some w.heap.size:=ho.new (zq _)
 have HNew:=hid hnew
 have HL:=hlook hN hk ho
 have HBh:=hid (λ(w:World) (nmv:ByteArray) (tv:Value) (g y:Int) (sv:Bool)=>behind_any n.op (Opx.kd n.op) g y nmv tv sv w)
 rw[hq]at HBh
 have HQ:=hid hq
 have HK:=hid hk
 have HLb:=hid (λv bs w ho hl=>putLabels_any n.L p.AL p.cL v bs w0 w hne hn hL ho hl)
 clear hne hn hL
 clear ho hnew hN hop hq hk
 unfold Wrote
 obtain⟨x,hx⟩:∃x,x=b8 n.op:=⟨_,rfl⟩
 rw[<-hx]at hb8⊢
 clear hx
 go_enter func249,ntmps249
 go_wp2_with(first
  |(go_at_call 256;(with_reducible refine(HL.out _).mono ?_);rintro e w1 ⟨At,mt,ct,nmv,yv,sv,rfl,hb1⟩;obtain⟨f9,hX1,hbw1⟩:=nine_of hb1;obtain⟨b0,b1,b2,b3,b4,b5,b6,b7,b8⟩:=ca9 f9;have HF9:=hid f9;have HBw1:=hid hbw1;have hN1:=hid ((HO.out.later hbw1).new (zq _));clear hb1 f9 hbw1)
  |(at_builtin;refine wpl_bytes rfl (.tmp 13) (.tmp 17) rfl [x] rfl ((HO.out.later HBw1.out).later (((zx _ _).alloc (zq _) _).alloc (by simp) _)) rfl (Sl.newbyte _ _ _ hb8 _ _ (by simp)) rfl (by omega) ?_;intro v1 W2 ho2 hk2;obtain⟨h9,h7,hXs,hYs,hvX,hvY⟩:=keep_two hk2 HNew.out hN1.out HF9.out hX1;obtain⟨y0,y1,y2,y3,y4,y5,y6⟩:=ca7 h7;have HH9:=hid h9;have HO2:=hid ho2;have HvX:=hid hvX;have HvY:=hid hvY;have HK2:=hid ((((Kp.of_below (v:=v) HBw1.out).alloc _).alloc _).trans hk2);clear ho2 hk2 h9 h7 hvX hvY b0 b1 b2 b3 b4 b5 b6 b7 b8)
  |(go_at_call 260;(with_reducible refine(HBh.out _ _ _ _ _ _).mono ?_);rintro e w3 ⟨rfl,hb3⟩;have g9:=(λi=>(hb3.cell (p:=⟨w.heap.size,i,none⟩) hXs).trans (HH9.out i));obtain⟨m0,m1,m2,m3,m4,m5,m6,m7,m8⟩:=ca9 g9;have z4:=(hb3.cell (p:=⟨w1.heap.size,4,none⟩) hYs).trans y4;have HO3:=hid (HO2.out.later hb3);have HK3:=hid (HK2.out.trans (Kp.of_below hb3));have hX3:=zj hXs hb3.size;have hY3:=zj hYs hb3.size;clear hb3 g9 y0 y1 y2 y3 y4 y5 y6)
  |(go_at_call 263;(with_reducible refine(HLb.out _ _ _ HO3.out (by simp only[zz,qg];omega)).mono ?_);rintro e W4 ⟨v4,rfl,ho4,hk4⟩;have HO4:=hid ho4;have HK4:=hid (HK3.out.trans hk4);clear ho4 hk4))
 go_ret
 refine⟨_,rfl,?_,HK4.out⟩
 have:=HO4.out
 simpa[zt]using this
theorem putIns_7(n:Nd)(p:Pl)(v:Value)(bs:List UInt8)(w0 w:World)(hN:Nam w0)(hk:knd n.op≠0)(hq:bh n.op (Opx.kd n.op)=7)(z:Int)(hz0: -9223372036854775808<=z)(hz1:z<9223372036854775808)(hs:∀w,Calls prog 265 #[.int .u64 n.v,.int .i64 (Opx.gv n.op)] w λe w'=>e=.returned (.int .i64 z)/\w=w')(hl:bs.length+20<=70000000)(ho:OwB w0 w v bs):
  Calls prog 249 #[v,ndV n p] w (Wrote w0 w v (bs++(b8 n.op::Leb.putS z))):=by
 have hop:=knd_in hk
 have hb8:=b8_nat hk
 have hop0:=hop.1
 have hop1:=hop.2
 have HO:=hid ho
 have hnew:v.ownBlock≠some w.heap.size:=ho.new (zq _)
 have HNew:=hid hnew
 have HL:=hlook hN hk ho
 have HBh:=hid (λ(w:World) (nmv:ByteArray) (tv:Value) (g y:Int) (sv:Bool)=>behind_any n.op (Opx.kd n.op) g y nmv tv sv w)
 rw[hq]at HBh
 have HQ:=hid hq
 have HK:=hid hk
 have HSg:=hid hs
 have HPs:=hid (λw=>PutS_e z w hz0 hz1)
 have h10:=Leb.putS_len10 hz0 hz1
 clear hs
 clear ho hnew hN hop hq hk
 unfold Wrote
 obtain⟨x,hx⟩:∃x,x=b8 n.op:=⟨_,rfl⟩
 rw[<-hx]at hb8⊢
 clear hx
 go_enter func249,ntmps249
 go_wp2_with(first
  |(go_at_call 256;(with_reducible refine(HL.out _).mono ?_);rintro e w1 ⟨At,mt,ct,nmv,yv,sv,rfl,hb1⟩;obtain⟨f9,hX1,hbw1⟩:=nine_of hb1;obtain⟨b0,b1,b2,b3,b4,b5,b6,b7,b8⟩:=ca9 f9;have HF9:=hid f9;have HBw1:=hid hbw1;have hN1:=hid ((HO.out.later hbw1).new (zq _));clear hb1 f9 hbw1)
  |(at_builtin;refine wpl_bytes rfl (.tmp 13) (.tmp 17) rfl [x] rfl ((HO.out.later HBw1.out).later (((zx _ _).alloc (zq _) _).alloc (by simp) _)) rfl (Sl.newbyte _ _ _ hb8 _ _ (by simp)) rfl (by omega) ?_;intro v1 W2 ho2 hk2;obtain⟨h9,h7,hXs,hYs,hvX,hvY⟩:=keep_two hk2 HNew.out hN1.out HF9.out hX1;obtain⟨y0,y1,y2,y3,y4,y5,y6⟩:=ca7 h7;have HH9:=hid h9;have HO2:=hid ho2;have HvX:=hid hvX;have HvY:=hid hvY;have HK2:=hid ((((Kp.of_below (v:=v) HBw1.out).alloc _).alloc _).trans hk2);clear ho2 hk2 h9 h7 hvX hvY b0 b1 b2 b3 b4 b5 b6 b7 b8)
  |(go_at_call 260;(with_reducible refine(HBh.out _ _ _ _ _ _).mono ?_);rintro e w3 ⟨rfl,hb3⟩;have g9:=(λi=>(hb3.cell (p:=⟨w.heap.size,i,none⟩) hXs).trans (HH9.out i));obtain⟨m0,m1,m2,m3,m4,m5,m6,m7,m8⟩:=ca9 g9;have z4:=(hb3.cell (p:=⟨w1.heap.size,4,none⟩) hYs).trans y4;have HO3:=hid (HO2.out.later hb3);have HK3:=hid (HK2.out.trans (Kp.of_below hb3));have hX3:=zj hXs hb3.size;have hY3:=zj hYs hb3.size;clear hb3 g9 y0 y1 y2 y3 y4 y5 y6)
  |(go_at_call 265;(with_reducible refine(HSg.out _).mono ?_);rintro e w4 ⟨rfl,rfl⟩)
  |(go_at_call 264;(with_reducible refine(HPs.out _).mono ?_);rintro e W4 ⟨A4,c4,rfl,hs4,hb4⟩;have HS4:=hid hs4;have HB4:=hid hb4;clear hs4 hb4)
  |(at_builtin;refine wpl_bytes rfl (.tmp 62) (.tmp 68) rfl (Leb.putS z) rfl (HO3.out.later HB4.out) rfl HS4.out rfl (by simp only[zz,qg];omega) ?_;intro v5 W5 ho5 hk5;have HO5:=hid ho5;have HK5:=hid ((HK3.out.trans (Kp.of_below HB4.out)).trans hk5);clear ho5 hk5))
 go_ret
 refine⟨_,rfl,?_,HK5.out⟩
 have:=HO5.out
 simpa[zt]using this
theorem putIns_1(n:Nd)(p:Pl)(v:Value)(bs:List UInt8)(w0 w:World)(hN:Nam w0)(hk:knd n.op≠0)(hq:bh n.op (Opx.kd n.op)=1)(ht0:0<=n.t)(ht2:n.t<=2)(hB:PutsL w0 n.body p.Ab p.cb)(hE:PutsL w0 n.els p.Ae p.ce)(e2:(enc n.body).length<=24 * wt n.body)(e3:(enc n.els).length<=24 * wt n.els)(hl:bs.length+20+24 * wt n.body+24 * wt n.els<=60000000)(ho:OwB w0 w v bs):
  Calls prog 249 #[v,ndV n p] w (Wrote w0 w v (bs++(b8 n.op::(eRes n.t::(enc n.body++((if n.he then 5::enc n.els else[])++[11])))))):=by
 have hop:=knd_in hk
 have hb8:=b8_nat hk
 have hop0:=hop.1
 have hop1:=hop.2
 have HO:=hid ho
 have hnew:v.ownBlock≠some w.heap.size:=ho.new (zq _)
 have HNew:=hid hnew
 have HL:=hlook hN hk ho
 have HBh:=hid (λ(w:World) (nmv:ByteArray) (tv:Value) (g y:Int) (sv:Bool)=>behind_any n.op (Opx.kd n.op) g y nmv tv sv w)
 rw[hq]at HBh
 have HQ:=hid hq
 have HK:=hid hk
 have HPb:=hid (λv bs w ho hl=>putBlock_any n p v bs w0 w ht0 ht2 hB hE ho e2 e3 hl)
 obtain⟨tl,htl⟩:∃tl:List UInt8,tl=(eRes n.t::(enc n.body++((if n.he then 5::enc n.els else[])++[11]))):=⟨_,rfl⟩
 rw[<-htl]at HPb⊢
 clear hB hE htl
 clear ho hnew hN hop hq hk
 unfold Wrote
 obtain⟨x,hx⟩:∃x,x=b8 n.op:=⟨_,rfl⟩
 rw[<-hx]at hb8⊢
 clear hx
 go_enter func249,ntmps249
 go_wp2_with(first
  |(go_at_call 256;(with_reducible refine(HL.out _).mono ?_);rintro e w1 ⟨At,mt,ct,nmv,yv,sv,rfl,hb1⟩;obtain⟨f9,hX1,hbw1⟩:=nine_of hb1;obtain⟨b0,b1,b2,b3,b4,b5,b6,b7,b8⟩:=ca9 f9;have HF9:=hid f9;have HBw1:=hid hbw1;have hN1:=hid ((HO.out.later hbw1).new (zq _));clear hb1 f9 hbw1)
  |(at_builtin;refine wpl_bytes rfl (.tmp 13) (.tmp 17) rfl [x] rfl ((HO.out.later HBw1.out).later (((zx _ _).alloc (zq _) _).alloc (by simp) _)) rfl (Sl.newbyte _ _ _ hb8 _ _ (by simp)) rfl (by omega) ?_;intro v1 W2 ho2 hk2;obtain⟨h9,h7,hXs,hYs,hvX,hvY⟩:=keep_two hk2 HNew.out hN1.out HF9.out hX1;obtain⟨y0,y1,y2,y3,y4,y5,y6⟩:=ca7 h7;have HH9:=hid h9;have HO2:=hid ho2;have HvX:=hid hvX;have HvY:=hid hvY;have HK2:=hid ((((Kp.of_below (v:=v) HBw1.out).alloc _).alloc _).trans hk2);clear ho2 hk2 h9 h7 hvX hvY b0 b1 b2 b3 b4 b5 b6 b7 b8)
  |(go_at_call 260;(with_reducible refine(HBh.out _ _ _ _ _ _).mono ?_);rintro e w3 ⟨rfl,hb3⟩;have g9:=(λi=>(hb3.cell (p:=⟨w.heap.size,i,none⟩) hXs).trans (HH9.out i));obtain⟨m0,m1,m2,m3,m4,m5,m6,m7,m8⟩:=ca9 g9;have z4:=(hb3.cell (p:=⟨w1.heap.size,4,none⟩) hYs).trans y4;have HO3:=hid (HO2.out.later hb3);have HK3:=hid (HK2.out.trans (Kp.of_below hb3));have hX3:=zj hXs hb3.size;have hY3:=zj hYs hb3.size;clear hb3 g9 y0 y1 y2 y3 y4 y5 y6)
  |(go_at_call 261;(with_reducible refine(HPb.out _ _ _ HO3.out (by simp only[zz,qg];omega)).mono ?_);rintro e W4 ⟨v4,rfl,ho4,hk4⟩;have HO4:=hid ho4;have HK4:=hid (HK3.out.trans hk4);clear ho4 hk4))
 go_ret
 refine⟨_,rfl,?_,HK4.out⟩
 have:=HO4.out
 simpa[zt]using this
theorem putIns_4(n:Nd)(p:Pl)(v:Value)(bs:List UInt8)(w0 w:World)(hN:Nam w0)(hk:knd n.op≠0)(hq:bh n.op (Opx.kd n.op)=4)(ha:0<=n.a/\n.a<=4294967295)(hb:0<=n.b/\n.b<=4294967295)(hl:bs.length+40<=70000000)(ho:OwB w0 w v bs):
  Calls prog 249 #[v,ndV n p] w (Wrote w0 w v (bs++(b8 n.op::(eN n.a++eN n.b)))):=by
 have hop:=knd_in hk
 have hb8:=b8_nat hk
 have hop0:=hop.1
 have hop1:=hop.2
 have HO:=hid ho
 have hnew:v.ownBlock≠some w.heap.size:=ho.new (zq _)
 have HNew:=hid hnew
 have HL:=hlook hN hk ho
 have HBh:=hid (λ(w:World) (nmv:ByteArray) (tv:Value) (g y:Int) (sv:Bool)=>behind_any n.op (Opx.kd n.op) g y nmv tv sv w)
 rw[hq]at HBh
 have HQ:=hid hq
 have HK:=hid hk
 have ha0:=ha.1
 have ha1:=ha.2
 clear ha
 have hb0:=hb.1
 have hb1:=hb.2
 have h10:=eN_len n.a
 have h11:=eN_len n.b
 clear hb
 clear ho hnew hN hop hq hk
 unfold Wrote
 obtain⟨x,hx⟩:∃x,x=b8 n.op:=⟨_,rfl⟩
 rw[<-hx]at hb8⊢
 clear hx
 go_enter func249,ntmps249
 go_wp2_with(first
  |(go_at_call 256;(with_reducible refine(HL.out _).mono ?_);rintro e w1 ⟨At,mt,ct,nmv,yv,sv,rfl,hb1⟩;obtain⟨f9,hX1,hbw1⟩:=nine_of hb1;obtain⟨b0,b1,b2,b3,b4,b5,b6,b7,b8⟩:=ca9 f9;have HF9:=hid f9;have HBw1:=hid hbw1;have hN1:=hid ((HO.out.later hbw1).new (zq _));clear hb1 f9 hbw1)
  |(at_builtin;refine wpl_bytes rfl (.tmp 13) (.tmp 17) rfl [x] rfl ((HO.out.later HBw1.out).later (((zx _ _).alloc (zq _) _).alloc (by simp) _)) rfl (Sl.newbyte _ _ _ hb8 _ _ (by simp)) rfl (by omega) ?_;intro v1 W2 ho2 hk2;obtain⟨h9,h7,hXs,hYs,hvX,hvY⟩:=keep_two hk2 HNew.out hN1.out HF9.out hX1;obtain⟨y0,y1,y2,y3,y4,y5,y6⟩:=ca7 h7;have HH9:=hid h9;have HO2:=hid ho2;have HvX:=hid hvX;have HvY:=hid hvY;have HK2:=hid ((((Kp.of_below (v:=v) HBw1.out).alloc _).alloc _).trans hk2);clear ho2 hk2 h9 h7 hvX hvY b0 b1 b2 b3 b4 b5 b6 b7 b8)
  |(go_at_call 260;(with_reducible refine(HBh.out _ _ _ _ _ _).mono ?_);rintro e w3 ⟨rfl,hb3⟩;have g9:=(λi=>(hb3.cell (p:=⟨w.heap.size,i,none⟩) hXs).trans (HH9.out i));obtain⟨m0,m1,m2,m3,m4,m5,m6,m7,m8⟩:=ca9 g9;have z4:=(hb3.cell (p:=⟨w1.heap.size,4,none⟩) hYs).trans y4;have HO3:=hid (HO2.out.later hb3);have HK3:=hid (HK2.out.trans (Kp.of_below hb3));have hX3:=zj hXs hb3.size;have hY3:=zj hYs hb3.size;clear hb3 g9 y0 y1 y2 y3 y4 y5 y6))
 refine wp_region_held_drew (S:=λw'=>w'.cell? ⟨w.heap.size,1,none⟩=some (.int .i64 n.a)/\w'.cell? ⟨w.heap.size,2,none⟩=some (.int .i64 n.b)) (by kernel_rfl) ⟨m1,m2⟩ (λhHeld=>?_)
 have HO3':=hid (HO3.out.drewN 1)
 have HK3':=hid (HK3.out.drewN 1)
 obtain⟨W4,hW4⟩:∃W4:World,W4=w3.drew:=⟨_,rfl⟩
 have e1:w3.drewN 1=W4:=by rw[hW4];rfl
 rw[e1]at HO3' HK3'
 have d1:W4.cell? ⟨w.heap.size,1,none⟩=some (.int .i64 n.a):=by rw[hW4];exact m1
 have d2:W4.cell? ⟨w.heap.size,2,none⟩=some (.int .i64 n.b):=by rw[hW4];exact m2
 rw[<-hW4]at hHeld⊢
 clear hW4 e1 m0 m1 m2 m3 m4 m5 m6 m7 m8 z4
 refine rtk 0 42 ?_
 refine rtk 1 43 ?_
 refine rtk 2 44 ?_
 refine rtk 4 46 ?_
 refine rtk 5 47 ?_
 refine rcl 3 λK hK=>?_
 go_simp
 refine(putNumber_any n.a _ _ w0 _ (by omega) (by omega) HO3'.out (by simp only[zz,qg];omega)).mono ?_
 rintro e W5 ⟨v5,rfl,ho5,hk5⟩
 have HO5:=hid ho5
 have f1:=hk5.cell' HvX.out d1
 have f2:=hk5.cell' HvX.out d2
 have HK5:=hid (HK3'.out.trans hk5)
 have HvX5:=hid (hk5.own (zn _ _ d1) HvX.out)
 clear ho5 hk5 d1 d2
 go_wp2_with fail
 refine rbk hK ⟨f1,f2⟩ λhHeld=>?_;clear hK K
 refine rcl 6 λK hK=>?_
 go_simp
 refine(putNumber_any n.b _ _ w0 _ (by omega) (by omega) HO5.out (by simp only[zz,qg];omega)).mono ?_
 rintro e W6 ⟨v6,rfl,ho6,hk6⟩
 have HO6:=hid ho6
 have g1:=hk6.cell' HvX5.out f1
 have g2:=hk6.cell' HvX5.out f2
 have HK6:=hid (HK5.out.trans hk6)
 clear ho6 hk6 f1 f2
 go_wp2_with fail
 refine rbk hK ⟨g1,g2⟩ λhHeld=>?_;clear hK K
 refine rtk 7 4 ?_
 refine wpAnyH_done (by kernel_rfl) ?_ _
 go_wp2_with fail
 go_ret
 refine⟨_,rfl,?_,HK6.out⟩
 have:=HO6.out
 simpa[zt]using this
theorem mayN_none(n:Nd)(h:Opx.nm n.op=[]):mayN n=false:=by
 simp[mayN,fit,knd,h]
theorem mayN_flt(n:Nd)(h:Opx.flt n.op=true):mayN n=false:=by
 refine mayN_none n ?_
 rcases Classical.em (Opx.nm n.op=[])with h0|h0
 ·exact h0
 ·
  obtain⟨j,hj,hlt,hne⟩:=isOp_of n.op h0
  have:=List.all_eq_true.1 Opx.no_flt j (by simpa using hlt)
  rw[hj]at h
  rw[h]at this
  simp at this
  rw[hj];exact this
theorem mayN_eq(n:Nd)(hn:Opx.nm n.op≠[])(hv:0<=n.v):
  (bareB (uA (Opx.kd n.op) n.op n.a) (uB (Opx.kd n.op) n.b) (uV (Opx.kd n.op) n.v) (uT (Opx.kd n.op) n.t) (uL (Opx.kd n.op) n.op n.L.length) (uY (Opx.kd n.op) (len n.body)) (uE (Opx.kd n.op) n.op n.he (len n.els)) (uH (Opx.kd n.op) n.op n.he)
   && cfB (Opx.kd n.op) n.op (Opx.gv n.op) n.v n.t n.a n.b n.L (may n.body) (may n.els))=mayN n:=
 may_eq n.op n.a n.b n.v n.t n.L (len n.body) (len n.els) _ _ n.he _ _ hn hv (isNil_len _) (isNil_len _) (λh=>by rw[len_zero h];rfl) (λh=>by rw[len_zero h];rfl)
theorem below_alloc{w w':World}{o:Obj}(h:Below (w.alloc o).heap.size (w.alloc o) w'):Below w.heap.size w w':=((zx _ _).alloc (zq _) o).trans (h.mono (by simp))
theorem keep7{w w':World}{b:Nat}{a0 a1 a2 a3 a4 a5 a6:Value}(hb:Below w.heap.size w w')(k0:w.cell? ⟨b,0,none⟩=some a0)(k1:w.cell? ⟨b,1,none⟩=some a1)(k2:w.cell? ⟨b,2,none⟩=some a2)(k3:w.cell? ⟨b,3,none⟩=some a3)
  (k4:w.cell? ⟨b,4,none⟩=some a4) (k5:w.cell? ⟨b,5,none⟩=some a5) (k6:w.cell? ⟨b,6,none⟩=some a6):
  b<w'.heap.size/\w'.cell? ⟨b,0,none⟩=some a0/\w'.cell? ⟨b,1,none⟩=some a1/\w'.cell? ⟨b,2,none⟩=some a2/\w'.cell? ⟨b,3,none⟩=some a3/\w'.cell? ⟨b,4,none⟩=some a4/\w'.cell? ⟨b,5,none⟩=some a5/\w'.cell? ⟨b,6,none⟩=some a6:=
 ⟨zj (zn _ _ k0) hb.size,cell_later k0 hb,cell_later k1 hb,cell_later k2 hb,cell_later k3 hb,cell_later k4 hb,cell_later k5 hb,cell_later k6 hb⟩
theorem mayBe_any(n:Nd)(p:Pl)(w:World)(hN:Nam w)(hok:NdNum w w.heap.size n p)
  (HB:∀w',Below w.heap.size w w'->Calls prog 228 #[.slice p.Ab (len n.body) p.cb] w' λe w''=>e=.returned (.bool (may n.body))/\Below w'.heap.size w' w'')
  (HE:∀w',Below w.heap.size w w'->Calls prog 228 #[.slice p.Ae (len n.els) p.ce] w' λe w''=>e=.returned (.bool (may n.els))/\Below w'.heap.size w' w''):
  Calls prog 248 #[.agg #[.int .i64 n.op,.int .i64 n.a,.int .i64 n.b,.int .u64 n.v,.int .i64 n.t,.slice p.AL n.L.length p.cL,.slice p.Ab (len n.body) p.cb,.slice p.Ae (len n.els) p.ce,.bool n.he]] w
   λe w'=>e=.returned (.bool (mayN n))/\Below w.heap.size w w':=by
 have hop:=hok.op
 unfold inI at hop
 by_cases hf:Opx.flt n.op=true
 ·
  rw[mayN_flt n hf]
  have HL:=hid (λo=>Look_flt n.op (w.alloc o) hf)
  unfold noV at HL
  clear hf hN HB HE hok
  go_enter func248,ntmps248
  go_wp2_with(go_at_call 256;refine(HL.out _).mono ?_;rintro e w' ⟨rfl,hb1⟩;obtain⟨hlt1,k0,k1,k2,k3,k4,k5,k6,k7,k8,kf,hw1⟩:=nineB hb1;have HW:=hid hw1;clear hb1 hw1)
  go_ret
  exact⟨rfl,HW.out.alloc HW.out.size _⟩
 have hf':Opx.flt n.op=false:=by simpa using hf
 by_cases hn:Opx.nm n.op=[]
 ·
  rw[mayN_none n hn]
  have HL:=hid (λo=>Look_none n.op (w.alloc o) (hN.alloc o) (by omega) (by omega) hf' hn)
  unfold noV at HL
  clear hf hf' hN HB HE hok hn
  go_enter func248,ntmps248
  go_wp2_with(go_at_call 256;refine(HL.out _).mono ?_;rintro e w' ⟨rfl,hb1⟩;obtain⟨hlt1,k0,k1,k2,k3,k4,k5,k6,k7,k8,kf,hw1⟩:=nineB hb1;have HW:=hid hw1;clear hb1 hw1)
  go_ret
  exact⟨rfl,HW.out.alloc HW.out.size _⟩
 ·
  have HL:=hid (λo=>Look_op n.op (w.alloc o) (hN.alloc o) hn hf')
  have HM:=hid (mayN_eq n hn hok.v.1)
  obtain⟨k,hk⟩:∃k,k=Opx.kd n.op:=⟨_,rfl⟩
  have HC:=hid (λAt lt ct w' (h:Below w.heap.size w w')=>countedFit_any n.op n.a n.b n.v n.t p.AL p.Ab p.Ae n.L p.cL (len n.body) p.cb (len n.els) p.ce n.he n.op (Opx.nmB n.op) k At lt ct (Opx.gv n.op) (Opx.by_ n.op) (Opx.sn n.op) (may n.body) (may n.els) w'
   hok.a hok.b hok.L ((hok.sL.below h).more h.size) (zy hok.hL hok.cL) (λw'' h2=>HB w'' (h.trans (h2.mono h.size))) (λw'' h2=>HE w'' (h.trans (h2.mono h.size))))
  have HU:=hid (λAt lt ct w'=>unc_any n.op n.a n.b n.v n.t p.AL p.Ab p.Ae n.L.length p.cL (len n.body) p.cb (len n.els) p.ce n.he n.op (Opx.nmB n.op) k At lt ct (Opx.gv n.op) (Opx.by_ n.op) (Opx.sn n.op) w')
  rw[<-hk]at HM
  unfold opV at HL
  rw[<-hk]at HL
  unfold insV opA at HC HU
  have HI:=hid (λAL' Ab' Ae' cL' cb' ce' w'=>isBare_any n.op (uA k n.op n.a) (uB k n.b) (uV k n.v) (uT k n.t) AL' Ab' Ae' (uL k n.op n.L.length) cL' (uY k (len n.body)) cb' (uE k n.op n.he (len n.els)) ce' (uH k n.op n.he) w')
  generalize bareB (uA k n.op n.a) (uB k n.b) (uV k n.v) (uT k n.t) (uL k n.op n.L.length) (uY k (len n.body)) (uE k n.op n.he (len n.els)) (uH k n.op n.he)=b1 at HM HI
  generalize cfB k n.op (Opx.gv n.op) n.v n.t n.a n.b n.L (may n.body) (may n.els)=b2 at HM HC
  rw[<-HM.out]
  clear HM hf hf' hN HB HE hok hn hk
  cases b1
  ·
   go_enter func248,ntmps248
   go_wp2_with(first
    |(go_at_call 256;refine(HL.out _).mono ?_;rintro e w1 ⟨At,ct,rfl,ho⟩;obtain⟨hlt1,k0,k1,k2,k3,k4,k5,k6,k7,k8,kf,hw1⟩:=nineB ho.below;have HW1:=hid hw1;clear ho hw1 kf)
    |(go_at_call 258;((with_reducible refine(HU.out _ _ _ _).mono ?_);rintro e w2 ⟨⟨AL',Ab',Ae',cL',cb',ce',rfl⟩,hb2⟩;obtain⟨hlt2,m0,m1,m2,m3,m4,m5,m6,mf⟩:=seven hb2;have hb2':=below_alloc hb2;obtain⟨hlt2',j0,j1,j2,j3,j4,j5,j6,j7,j8⟩:=keep9 hb2' k0 k1 k2 k3 k4 k5 k6 k7 k8;have HW2:=hid (HW1.out.trans (hb2'.mono HW1.out.size));clear hb2 hb2' mf))
    |(go_at_call 257;((with_reducible refine(HI.out _ _ _ _ _ _ _).mono ?_);rintro e w3 ⟨rfl,hb3⟩;obtain⟨hlt3,i0,i1,i2,i3,i4,i5,i6,i7,i8⟩:=keep9 hb3 j0 j1 j2 j3 j4 j5 j6 j7 j8;obtain⟨hlt3',l0,l1,l2,l3,l4,l5,l6⟩:=keep7 hb3 m0 m1 m2 m3 m4 m5 m6;have HW3:=hid (HW2.out.trans (hb3.mono HW2.out.size));clear hb3))
    |(go_at_call 259;((with_reducible refine(HC.out _ _ _ _ HW3.out).mono ?_);rintro e w4 ⟨rfl,hb4⟩;have HW4:=hid (HW3.out.trans (hb4.mono HW3.out.size));clear hb4)))
   go_ret
   exact⟨by simp,HW3.out⟩
  ·
   go_enter func248,ntmps248
   go_wp2_with(first
    |(go_at_call 256;refine(HL.out _).mono ?_;rintro e w1 ⟨At,ct,rfl,ho⟩;obtain⟨hlt1,k0,k1,k2,k3,k4,k5,k6,k7,k8,kf,hw1⟩:=nineB ho.below;have HW1:=hid hw1;clear ho hw1 kf)
    |(go_at_call 258;((with_reducible refine(HU.out _ _ _ _).mono ?_);rintro e w2 ⟨⟨AL',Ab',Ae',cL',cb',ce',rfl⟩,hb2⟩;obtain⟨hlt2,m0,m1,m2,m3,m4,m5,m6,mf⟩:=seven hb2;have hb2':=below_alloc hb2;obtain⟨hlt2',j0,j1,j2,j3,j4,j5,j6,j7,j8⟩:=keep9 hb2' k0 k1 k2 k3 k4 k5 k6 k7 k8;have HW2:=hid (HW1.out.trans (hb2'.mono HW1.out.size));clear hb2 hb2' mf))
    |(go_at_call 257;((with_reducible refine(HI.out _ _ _ _ _ _ _).mono ?_);rintro e w3 ⟨rfl,hb3⟩;obtain⟨hlt3,i0,i1,i2,i3,i4,i5,i6,i7,i8⟩:=keep9 hb3 j0 j1 j2 j3 j4 j5 j6 j7 j8;obtain⟨hlt3',l0,l1,l2,l3,l4,l5,l6⟩:=keep7 hb3 m0 m1 m2 m3 m4 m5 m6;have HW3:=hid (HW2.out.trans (hb3.mono HW2.out.size));clear hb3))
    |(go_at_call 259;((with_reducible refine(HC.out _ _ _ _ HW3.out).mono ?_);rintro e w4 ⟨rfl,hb4⟩;have HW4:=hid (HW3.out.trans (hb4.mono HW3.out.size));clear hb4)))
   go_ret
   exact⟨by simp,HW4.out⟩
theorem allIns_any(f:Fo)(A:Option Addr)(c:Nat)(w:World)(hr:RdS w w.heap.size A f)(hm:len f<=maxLen)
  (H:∀(n:Nd) (p:Pl) (w':World),n∈nds f->NdOk w w.heap.size n p->Below w.heap.size w w'->Calls prog 248 #[.agg #[.int .i64 n.op,.int .i64 n.a,.int .i64 n.b,.int .u64 n.v,.int .i64 n.t,.slice p.AL n.L.length p.cL,.slice p.Ab (len n.body) p.cb,.slice p.Ae (len n.els) p.ce,.bool n.he]] w'
   λe w''=>e=.returned (.bool (mayN n))/\Below w'.heap.size w' w''):
  Calls prog 245 #[.slice A (len f) c,.func (.func 248) #[] #[]] w λe w'=>e=.returned (.bool (may f))/\Below w.heap.size w w':=by
 unfold maxLen at hm
 rw[may_nds]
 have HR:=hid hr
 have HH:=hid H
 clear hr H
 go_enter func245,ntmps245
 go_wp2_with fail
 go_loopw [9] (λi wr=>∃j:Nat,j<=len f/\i=.int .i64 j/\((nds f).take j).all mayN=true/\Below w.heap.size w wr) (λi _=>len f-(intOf i).toNat)
 case atStart=>exact⟨0,by omega,rfl,by simp,zx _ _⟩
 case round=>
  obtain⟨j,hj,rfl,hall,hbel⟩:=hrel
  have HA:=hid hall
  clear hall
  by_cases hlt:j<len f
  ·
   obtain⟨b,o,n,p,rfl,hn,hat0⟩:=HR.out.at_ hlt
   obtain⟨q0,q1,q2,q3,q4,q5,q6,q7,q8⟩:=(hat0.below hbel).nine
   have hb:=zj hat0.lt hbel.size
   have HC:=hid (λo=>HH.out n p (wr.alloc o) (zu hn) hat0.ok (hbel.alloc hbel.size o))
   have HG:=hid hn
   have HB:=hid hbel
   have hsz:=hbel.size
   clear hat0 hbel hn HR HH
   cases hq:mayN n
   ·
    rw[hq]at HC
    have HQ:=hid (all_false mayN (nds f) j n HG.out hq)
    clear hq
    go_wp2_with(go_at_call 248;refine(HC.out _).mono ?_;rintro e w' ⟨rfl,hb1⟩;have HB1:=hid ((HB.out.alloc hsz _).trans (hb1.mono (by simp;omega)));clear hb1)
    go_ret
    exact⟨by rw[HQ.out];rfl,HB1.out⟩
   ·
    rw[hq]at HC
    have HQ:=hid ((all_snoc mayN (nds f) j n HG.out HA.out).trans hq)
    clear hq
    go_wp2_with(go_at_call 248;refine(HC.out _).mono ?_;rintro e w' ⟨rfl,hb1⟩;have HB1:=hid ((HB.out.alloc hsz _).trans (hb1.mono (by simp;omega)));clear hb1)
    go_roundw
    case rel=>exact⟨j+1,by omega,by go_num,HQ.out,HB1.out⟩
    case measure=>simp[intOf];omega
  ·
   have HT:=hid (zo (l:=nds f) (i:=j) (by unfold len at *;omega))
   have HB:=hid hbel
   clear hbel
   go_wp2_with fail
   go_ret
   exact⟨by rw[<-HA.out,HT.out];rfl,HB.out⟩
theorem May_any(k:Nat):∀(f:Fo) (A:Option Addr) (c:Nat) (w:World),cnt f<=k->Nam w->RdS w w.heap.size A f->len f<=maxLen->
  Calls prog 228 #[.slice A (len f) c] w λe w'=>e=.returned (.bool (may f))/\Below w.heap.size w w':=by
 induction k using Nat.strongRecOn with
 |ind k ih=>
  intro f A c w hk hN hr hm
  have HA:=hid (allIns_any f A c w hr hm (λn p w' hn hok hb=>mayBe_any n p w' (hN.below hb) (hok.num.keep hb.size λb o hp=>hb.cell (p:=⟨b,o,none⟩) hp)
   (λw'' hb2=>ih _ (zj (cnt_mem hn).1 hk) n.body p.Ab p.cb w'' (zq _) (hN.below (hb.trans (hb2.mono hb.size))) ((hok.body.below (hb.trans (hb2.mono hb.size))).more (hb.trans (hb2.mono hb.size)).size) (zy hok.num.hb hok.num.cb))
   (λw'' hb2=>ih _ (zj (cnt_mem hn).2 hk) n.els p.Ae p.ce w'' (zq _) (hN.below (hb.trans (hb2.mono hb.size))) ((hok.els.below (hb.trans (hb2.mono hb.size))).more (hb.trans (hb2.mono hb.size)).size) (zy hok.num.he hok.num.ce))))
  clear ih hr hN
  go_enter func228,ntmps228
  go_wp2_with(go_at_call 245;refine HA.out.mono ?_;rintro e w' ⟨rfl,hb1⟩)
  go_ret
  exact⟨rfl,hb1⟩
end Go.Proofs.YteoijlfipmaoeaaGreatDoor
namespace Go.Proofs.YteoijlfipmaoeaaGreatDoor.Trx
open Go.RowKit
theorem vok_nds(f:Fo):vok f↔∀n∈nds f,(0<=n.v/\n.v<=18446744073709551615)/\vok n.body/\vok n.els:=by
 induction f with
 |nil=>simp[vok,nds]
 |cons op a b v t L body els he next _ _ ih=>simp only[vok,nds,xk,ih,and_assoc]
theorem take_mem{f:Fo}{j:Nat}{n:Nd}(h:n∈(nds f).take j):n∈nds f:=List.mem_of_mem_take h
theorem vok_take{f:Fo}(h:vok f)(j:Nat):vok (ofN ((nds f).take j)):=by
 rw[vok_nds,nds_ofN]
 exact λn hn=>(vok_nds f).1 h n (take_mem hn)
theorem may_take{f:Fo}(h:may f=true)(j:Nat):may (ofN ((nds f).take j))=true:=by
 rw[may_ofN]
 rw[may_nds]at h
 exact List.all_eq_true.2 λn hn=>List.all_eq_true.1 h n (take_mem hn)
theorem wt_take(f:Fo)(j:Nat):wt (ofN ((nds f).take j))<=wt f:=by
 have:=wt_append ((nds f).take j) ((nds f).drop j)
 rw[jw,ofN_nds]at this
 omega
theorem enc_one(n:Nd):enc (ofN [n])=b8 n.op::eB n.op n.a n.b n.v n.t n.L (enc n.body) (enc n.els) n.he:=by simp[ofN,enc]
theorem enc_step{f:Fo}{j:Nat}{n:Nd}(h:(nds f)[j]? =some n):enc (ofN ((nds f).take (j+1)))=enc (ofN ((nds f).take j))++(b8 n.op::eB n.op n.a n.b n.v n.t n.L (enc n.body) (enc n.els) n.he):=by
 rw[qs,h]
 simp only[Option.toList_some]
 rw[enc_append,enc_one]
theorem wt_step{f:Fo}{j:Nat}{n:Nd}(h:(nds f)[j]? =some n):wt (ofN ((nds f).take j))+(1+n.L.length+wt n.body+wt n.els)<=wt f:=by
 have h1:=wt_take f (j+1)
 rw[qs,h]at h1
 simp only[Option.toList_some]at h1
 rw[wt_append]at h1
 simp only[ofN,wt]at h1
 omega
end Go.Proofs.YteoijlfipmaoeaaGreatDoor.Trx
namespace Go.Proofs.YteoijlfipmaoeaaGreatDoor
open Lib (hid)
open Go.RowKit Trx
open Go.Proofs.Tryz
theorem RdF.vok{w:World}{B:Nat}{f:Fo}{blk off:Nat}(h:RdF w B f blk off):Trx.vok f:=by
 induction f generalizing blk off with
 |nil=>trivial
 |cons op a b v t L body els he next ih1 ih2 ih3=>
  obtain⟨⟨hlt,p,hc,hn,hb,he'⟩,hr⟩:=h
  refine⟨hn.v,?_,?_,ih3 hr⟩
  ·
   cases body with
   |nil=>trivial
   |cons=>obtain⟨b',o',-,h'⟩:=hb (by simp);exact ih1 h'
  ·
   cases els with
   |nil=>trivial
   |cons=>obtain⟨b',o',-,h'⟩:=he' (by simp);exact ih2 h'
theorem RdS.vok{w:World}{B:Nat}{A:Option Addr}{f:Fo}(h:RdS w B A f):Trx.vok f:=by
 cases f with
 |nil=>trivial
 |cons=>obtain⟨b,o,-,h'⟩:=h (by simp);exact h'.vok
theorem putIns_any(n:Nd)(p:Pl)(v:Value)(bs:List UInt8)(w0 w:World)(hN:Nam w0)(hok:NdOk w0 w0.heap.size n p)(hfit:fit n.op n.a n.b n.v n.t n.L (isNil n.body) (isNil n.els) n.he=true)
  (hB:PutsL w0 n.body p.Ab p.cb) (hE:PutsL w0 n.els p.Ae p.ce) (ho:OwB w0 w v bs) (e2:(enc n.body).length<=24 * wt n.body) (e3:(enc n.els).length<=24 * wt n.els) (hl:bs.length+24+24 * n.L.length+24 * wt n.body+24 * wt n.els<=60000000):
  Calls prog 249 #[v,ndV n p] w (Wrote w0 w v (bs++(b8 n.op::eB n.op n.a n.b n.v n.t n.L (enc n.body) (enc n.els) n.he))):=by
 obtain⟨h0,h1,h2,h3,h4,h5,h6,h7,h8,h9,h10,h11,h12,h13⟩:=fit_facts hfit
 have hq:=bh_eq n.op h0
 have ha:=(num32_iff _).1 h9
 have hb:=(num32_iff _).1 h10
 have hv:=hok.num.v
 unfold inU at hv
 unfold eB eP
 by_cases c0:knd n.op=2
 ·
  rw[if_pos c0]at hq⊢
  exact putIns_1 n p v bs w0 w hN h0 hq h11.1 h11.2 hB hE e2 e3 (by omega) ho
 rw[if_neg c0]at hq⊢
 by_cases c1:knd n.op=7\/knd n.op=8
 ·
  rw[if_pos c1]at hq⊢
  exact putIns_4 n p v bs w0 w hN h0 hq ha hb (by omega) ho
 rw[if_neg c1]at hq⊢
 by_cases c2:knd n.op=9
 ·
  rw[if_pos c2]at hq⊢
  exact putIns_6 n p v bs w0 w hN h0 hq (by omega) ho
 rw[if_neg c2]at hq⊢
 by_cases c3:n.op=65
 ·
  rw[if_pos (Or.inl c3)]at hq
  rw[if_pos c3]
  have:=h12 c3
  refine putIns_7 n p v bs w0 w hN h0 hq (s32 n.v) (by unfold s32;split<;>omega) (by unfold s32;split<;>omega) (λw=>?_) (by omega) ho
  rw[c3,gv_65]
  exact signed_32 n.v w hv.1 this
 rw[if_neg c3]
 by_cases c4:n.op=66
 ·
  rw[if_pos (Or.inr c4)]at hq
  rw[if_pos c4]
  refine putIns_7 n p v bs w0 w hN h0 hq (s64 n.v) (by unfold s64;split<;>omega) (by unfold s64;split<;>omega) (λw=>?_) (by omega) ho
  rw[c4,gv_66]
  exact signed_64 n.v 2 w hv.1 hv.2 (by decide)
 rw[if_neg c4]
 rw[if_neg (by omega)]at hq
 by_cases c5:n.op=14
 ·
  rw[if_pos c5]at hq⊢
  exact putIns_5 n p v bs w0 w hN h0 hq (h6 c5) h13 hok.num.sL (by omega) ho
 rw[if_neg c5]at hq⊢
 by_cases c6:n.op=17
 ·
  rw[if_pos c6]at hq⊢
  exact putIns_3 n p v bs w0 w hN h0 hq ha (by omega) ho
 rw[if_neg c6]at hq⊢
 by_cases c7:knd n.op=4\/knd n.op=6\/n.op=12\/n.op=13
 ·
  rw[if_pos c7]at hq⊢
  exact putIns_2 n p v bs w0 w hN h0 hq ha (by omega) ho
 rw[if_neg c7]at hq⊢
 exact putIns_0 n p v bs w0 w hN h0 hq (by omega) ho
def PtL(f:Fo)(w0:World)(v:Value)(w:World)(bs:List UInt8)(x i:Value)(wr:World):Prop:=
 ∃j:Nat,j<=len f/\i=.int .i64 j/\OwB w0 wr x (bs++enc (ofN ((nds f).take j)))/\Kp w v wr x
theorem putList_any(k:Nat):∀(f:Fo) (A:Option Addr) (c:Nat) (v:Value) (bs:List UInt8) (w0 w:World),cnt f<=k->Nam w0->RdS w0 w0.heap.size A f->may f=true->len f<=maxLen->OwB w0 w v bs->bs.length+24 * wt f<=60000000->
  Calls prog 229 #[v,.slice A (len f) c] w (Wrote w0 w v (bs++enc f)):=by
 induction k using Nat.strongRecOn with
 |ind k ih=>
  intro f A c v bs w0 w hk hN hr hm hlen ho hl
  have hvok:=hr.vok
  unfold maxLen at hlen
  have HR:=hid hr
  have HIH:=hid ih
  have HN:=hid hN
  have HM:=hid hm
  have HV:=hid hvok
  have HO:=hid ho
  clear ih hr hN hm hvok ho
  unfold Wrote
  go_enter func229,ntmps229
  go_wp2_with fail
  go_loopw [0,9] (λx i wr=>PtL f w0 v w bs x i wr) (λ_ i _=>len f-(intOf i).toNat)
  case atStart=>exact⟨0,qw _,rfl,by simpa[ofN,enc]using HO.out,Kp.refl_⟩
  case round=>
   obtain⟨j,hj,rfl,hoj,hkj⟩:=hrel
   have HOj:=hid hoj
   have HKj:=hid hkj
   by_cases hlt:j<len f
   ·
    obtain⟨b,o,n,p,rfl,hn,hat0⟩:=HR.out.at_ hlt
    have hbel:=hoj.below
    obtain⟨q0,q1,q2,q3,q4,q5,q6,q7,q8⟩:=(hat0.below hbel).nine
    have hb:=zj hat0.lt hbel.size
    have hmem:n∈nds f:=zu hn
    have hok:=hat0.ok
    have hmn:mayN n=true:=by have:=HM.out;rw[may_nds]at this;exact List.all_eq_true.1 this n hmem
    unfold mayN at hmn
    rw[zp,zp]at hmn
    have hvn:=(vok_nds f).1 HV.out n hmem
    have hws:=wt_step hn
    have e1:=enc_len _ (may_take HM.out j) (vok_take HV.out j)
    have e2:=enc_len n.body hmn.1.2 hvn.2.1
    have e3:=enc_len n.els hmn.2 hvn.2.2
    have hB:PutsL w0 n.body p.Ab p.cb:=λv' bs' w' ho' hl'=>HIH.out _ (zj (cnt_mem hmem).1 hk) n.body p.Ab p.cb v' bs' w0 w' (zq _) HN.out hok.body hmn.1.2 (zy hok.num.hb hok.num.cb) ho' hl'
    have hE:PutsL w0 n.els p.Ae p.ce:=λv' bs' w' ho' hl'=>HIH.out _ (zj (cnt_mem hmem).2 hk) n.els p.Ae p.ce v' bs' w0 w' (zq _) HN.out hok.els hmn.2 (zy hok.num.he hok.num.ce) ho' hl'
    have HP:=hid (λw' (ho':OwB w0 w' u0 (bs++enc (ofN ((nds f).take j))))=>putIns_any n p u0 _ w0 w' HN.out hok hmn.1.1 hB hE ho' e2 e3 (by simp only[zz];omega))
    have HS:=hid (enc_step hn)
    clear hat0 hbel hmem hok hmn hvn hws e1 e2 e3 hB hE hoj hkj hn HIH
    go_wp2_with(first
     |(go_at_call 249;(with_reducible refine(HP.out _ (HOj.out.later ((zx _ _).alloc (zq _) _))).mono ?_);rintro e w1 ⟨v1,rfl,ho1,hk1⟩;have HO1:=hid ho1;have HK1:=hid ((HKj.out.alloc _).trans hk1);clear ho1 hk1))
    go_roundw
    case rel=>exact⟨j+1,by omega,by go_num,by rw[HS.out,<-zt];exact HO1.out,HK1.out⟩
    case measure=>simp[intOf];omega
   ·
    have hT:=zo (l:=nds f) (i:=j) (by unfold len at *;omega)
    rw[hT,ofN_nds]at HOj
    clear hoj hkj
    go_wp2_with fail
    go_ret
    exact⟨_,rfl,HOj.out,HKj.out⟩
theorem Put_not(f:Fo)(A:Option Addr)(c:Nat)(w:World)(hN:Nam w)(hr:RdS w w.heap.size A f)(hlen:len f<=maxLen)(hm:may f=false):
  Calls prog 173 #[.slice A (len f) c] w λe w'=>e=.returned (.tuple #[.slice none 0 0,.iface 40 (.int .i64 1)])/\Below w.heap.size w w':=by
 have HM:=hid (May_any (cnt f) f A c w (zq _) hN hr hlen)
 rw[hm]at HM
 clear hN hr hlen hm
 go_enter func173,ntmps173
 go_wp2_with(first|(go_at_call 228;(with_reducible refine HM.out.mono ?_);rintro e w1 ⟨rfl,hb1⟩;have HB:=hid hb1;clear hb1))
 go_ret2
 exact⟨rfl,HB.out⟩
theorem Put_may(f:Fo)(A:Option Addr)(c:Nat)(w:World)(hN:Nam w)(hr:RdS w w.heap.size A f)(hlen:len f<=maxLen)(hm:may f=true)(hl:wt f<=2200000):
  Calls prog 173 #[.slice A (len f) c] w λe w'=>∃v',e=.returned (.tuple #[v',.nilIface])/\OwB w w' v' (enc f++[11]):=by
 have HM:=hid (May_any (cnt f) f A c w (zq _) hN hr hlen)
 rw[hm]at HM
 have hvok:=hr.vok
 have he:=enc_len f hm hvok
 have HP:=hid (λw' (hb:Below w.heap.size w w')=>putList_any (cnt f) f A c (.slice none 0 0) [] w w' (zq _) hN hr hm hlen (OwnK.nil_ _ _ _ _ hb hb.size) (by simp;omega))
 clear hN hr hlen hm hvok
 go_enter func173,ntmps173
 go_wp2_with(first
  |(go_at_call 228;(with_reducible refine HM.out.mono ?_);rintro e w1 ⟨rfl,hb1⟩;have HB:=hid hb1;clear hb1)
  |(go_at_call 229;(with_reducible refine(HP.out _ HB.out).mono ?_);rintro e w2 ⟨v2,rfl,ho2,-⟩;rw[qx]at ho2;have HO2:=hid ho2;clear ho2)
  |(at_builtin;refine wpl_bytes rfl (.tmp 9) (.tmp 10) rfl [11] rfl (HO2.out.later ((zx _ _).alloc (zq _) _)) rfl (Sl.newbyte _ _ _ rfl _ _ (by simp)) rfl (by omega) ?_;intro v3 w3 ho3 hk3;have HO3:=hid ho3;clear ho3 hk3))
 go_ret2
 exact⟨_,rfl,HO3.out⟩
def sh:Fo->Bool
 |.nil=>true
 |.cons _ _ _ _ _ L body els _ next=>(decide (L.length<=64)&&sh body&&sh els)&&sh next
def shN(n:Nd):Bool:=decide (n.L.length<=64)&&sh n.body&&sh n.els
theorem sh_nds(f:Fo):sh f=(nds f).all shN:=by
 induction f with
 |nil=>rfl
 |cons op a b v t L body els he next _ _ ih=>simp[sh,nds,shN,ih]
def scode(f:Fo):Bool:=decide (wrap64 (cnt f)<=512)&&decide (dp f<=32)&&sh f
def sIns(n:Nd):Bool:=scode (ofN [n])
theorem leT{a b:Nat}(h:a<=b):decide ((a:Int)<=(b:Int))=true:=decide_eq_true (by omega)
theorem leF{a b:Nat}(h:¬a<=b):decide ((a:Int)<=(b:Int))=false:=decide_eq_false (by omega)
theorem allSh_any(f:Fo)(A:Option Addr)(c:Nat)(w:World)(hr:RdS w w.heap.size A f)(hm:len f<=maxLen)
  (H:∀(n:Nd) (p:Pl) (w':World),n∈nds f->NdOk w w.heap.size n p->Below w.heap.size w w'->Calls prog 246 #[.agg #[.int .i64 n.op,.int .i64 n.a,.int .i64 n.b,.int .u64 n.v,.int .i64 n.t,.slice p.AL n.L.length p.cL,.slice p.Ab (len n.body) p.cb,.slice p.Ae (len n.els) p.ce,.bool n.he]] w'
   λe w''=>e=.returned (.bool (shN n))/\Below w'.heap.size w' w''):
  Calls prog 245 #[.slice A (len f) c,.func (.func 246) #[] #[]] w λe w'=>e=.returned (.bool (sh f))/\Below w.heap.size w w':=by
 unfold maxLen at hm
 rw[sh_nds]
 have HR:=hid hr
 have HH:=hid H
 clear hr H
 go_enter func245,ntmps245
 go_wp2_with fail
 go_loopw [9] (λi wr=>∃j:Nat,j<=len f/\i=.int .i64 j/\((nds f).take j).all shN=true/\Below w.heap.size w wr) (λi _=>len f-(intOf i).toNat)
 case atStart=>exact⟨0,by omega,rfl,by simp,zx _ _⟩
 case round=>
  obtain⟨j,hj,rfl,hall,hbel⟩:=hrel
  have HA:=hid hall
  clear hall
  by_cases hlt:j<len f
  ·
   obtain⟨b,o,n,p,rfl,hn,hat0⟩:=HR.out.at_ hlt
   obtain⟨q0,q1,q2,q3,q4,q5,q6,q7,q8⟩:=(hat0.below hbel).nine
   have hb:=zj hat0.lt hbel.size
   have HC:=hid (λo=>HH.out n p (wr.alloc o) (zu hn) hat0.ok (hbel.alloc hbel.size o))
   have HG:=hid hn
   have HB:=hid hbel
   have hsz:=hbel.size
   clear hat0 hbel hn HR HH
   cases hq:shN n
   ·
    rw[hq]at HC
    have HQ:=hid (all_false shN (nds f) j n HG.out hq)
    clear hq
    go_wp2_with(go_at_call 246;refine(HC.out _).mono ?_;rintro e w' ⟨rfl,hb1⟩;have HB1:=hid ((HB.out.alloc hsz _).trans (hb1.mono (by simp;omega)));clear hb1)
    go_ret
    exact⟨by rw[HQ.out];rfl,HB1.out⟩
   ·
    rw[hq]at HC
    have HQ:=hid ((all_snoc shN (nds f) j n HG.out HA.out).trans hq)
    clear hq
    go_wp2_with(go_at_call 246;refine(HC.out _).mono ?_;rintro e w' ⟨rfl,hb1⟩;have HB1:=hid ((HB.out.alloc hsz _).trans (hb1.mono (by simp;omega)));clear hb1)
    go_roundw
    case rel=>exact⟨j+1,by omega,by go_num,HQ.out,HB1.out⟩
    case measure=>simp[intOf];omega
  ·
   have HT:=hid (zo (l:=nds f) (i:=j) (by unfold len at *;omega))
   have HB:=hid hbel
   clear hbel
   go_wp2_with fail
   go_ret
   exact⟨by rw[<-HA.out,HT.out];rfl,HB.out⟩
theorem shOne_any(n:Nd)(p:Pl)(w:World)(HB:∀w',Below w.heap.size w w'->Calls prog 226 #[.slice p.Ab (len n.body) p.cb] w' λe w''=>e=.returned (.bool (sh n.body))/\Below w'.heap.size w' w'')
  (HE:∀w',Below w.heap.size w w'->Calls prog 226 #[.slice p.Ae (len n.els) p.ce] w' λe w''=>e=.returned (.bool (sh n.els))/\Below w'.heap.size w' w''):
  Calls prog 246 #[.agg #[.int .i64 n.op,.int .i64 n.a,.int .i64 n.b,.int .u64 n.v,.int .i64 n.t,.slice p.AL n.L.length p.cL,.slice p.Ab (len n.body) p.cb,.slice p.Ae (len n.els) p.ce,.bool n.he]] w λe w'=>e=.returned (.bool (shN n))/\Below w.heap.size w w':=by
 unfold shN
 have HB:=hid HB
 have HE:=hid HE
 by_cases h1:n.L.length<=64
 ·
  have t1:decide ((n.L.length:Int)<=64)=true:=leT h1
  rw[decide_eq_true h1]
  clear h1
  cases hq:sh n.body
  ·
   rw[hq]at HB
   clear hq
   go_enter func246,ntmps246
   go_wp2_with(go_at_call 226;refine(HB.out _ ((zx _ _).alloc (zq _) _)).mono ?_;rintro e w1 ⟨rfl,hb1⟩;have HW1:=hid (bel_alloc hb1);clear hb1)
   go_ret
   exact⟨rfl,HW1.out⟩
  ·
   rw[hq]at HB
   clear hq
   go_enter func246,ntmps246
   go_wp2_with(first
    |(go_at_call 226;((with_reducible refine(HB.out _ ((zx _ _).alloc (zq _) _)).mono ?_);rintro e w1 ⟨rfl,hb1⟩;obtain⟨hl1,n1,-,hw1⟩:=newBlk hb1;have c7:w1.cell? ⟨w.heap.size,7,none⟩=some (.slice p.Ae (len n.els) p.ce):=n1 7;have HW1:=hid hw1;clear hb1 n1 hw1))
    |(go_at_call 226;((with_reducible refine(HE.out _ HW1.out).mono ?_);rintro e w2 ⟨rfl,hb2⟩;have HW2:=hid (HW1.out.trans (hb2.mono HW1.out.size));clear hb2)))
   go_ret
   exact⟨by simp,HW2.out⟩
 ·
  have t1:decide ((n.L.length:Int)<=64)=false:=leF h1
  rw[decide_eq_false h1]
  clear h1
  go_enter func246,ntmps246
  go_wp2_with fail
  go_ret
  exact⟨by simp,(zx _ _).alloc (zq _) _⟩
theorem shortLists_any(k:Nat):∀(f:Fo) (A:Option Addr) (c:Nat) (w:World),cnt f<=k->RdS w w.heap.size A f->len f<=maxLen->
  Calls prog 226 #[.slice A (len f) c] w λe w'=>e=.returned (.bool (sh f))/\Below w.heap.size w w':=by
 induction k using Nat.strongRecOn with
 |ind k ih=>
  intro f A c w hk hr hm
  have HA:=hid (allSh_any f A c w hr hm (λn p w' hn hok hb=>shOne_any n p w'
   (λw'' hb2=>ih _ (zj (cnt_mem hn).1 hk) n.body p.Ab p.cb w'' (zq _) ((hok.body.below (hb.trans (hb2.mono hb.size))).more (hb.trans (hb2.mono hb.size)).size) (zy hok.num.hb hok.num.cb))
   (λw'' hb2=>ih _ (zj (cnt_mem hn).2 hk) n.els p.Ae p.ce w'' (zq _) ((hok.els.below (hb.trans (hb2.mono hb.size))).more (hb.trans (hb2.mono hb.size)).size) (zy hok.num.he hok.num.ce))))
  clear ih hr
  go_enter func226,ntmps226
  go_wp2_with(go_at_call 245;refine HA.out.mono ?_;rintro e w' ⟨rfl,hb1⟩)
  go_ret
  exact⟨rfl,hb1⟩
theorem smallCode_any(f:Fo)(A:Option Addr)(c:Nat)(w:World)(hN:Nam w)(hr:RdS w w.heap.size A f)(hm:len f<=maxLen):
  Calls prog 158 #[.slice A (len f) c] w λe w'=>e=.returned (.bool (scode f))/\Below w.heap.size w w':=by
 have HC:=hid (Count_any _ f A c w (zq _) hN hr hm)
 have HS:=hid (λw' (hb:Below w.heap.size w w')=>shortLists_any _ f A c w' (zq _) ((hr.below hb).more hb.size) hm)
 clear hr hN
 have k1: -9223372036854775808<=wrap64 (cnt f)/\wrap64 (cnt f)<=9223372036854775807:=by unfold wrap64;omega
 have k2:=dp_nonneg f
 have k3:=dp_le f
 unfold scode
 generalize wrap64 (cnt f)=x at *
 generalize dp f=y at *
 by_cases h1:x<=512
 ·
  have t1:=decide_eq_true h1
  rw[t1]
  by_cases h2:y<=32
  ·
   have t2:=decide_eq_true h2
   rw[t2]
   clear h1 h2
   go_enter func158,ntmps158
   go_wp2_with(first
    |(go_at_call 225;refine HC.out.mono ?_;rintro e w1 ⟨rfl,hb1⟩;have HW1:=hid hb1;clear hb1)
    |(go_at_call 226;refine(HS.out _ HW1.out).mono ?_;rintro e w2 ⟨rfl,hb2⟩;have HW2:=hid (HW1.out.trans (hb2.mono HW1.out.size));clear hb2))
   go_ret
   exact⟨by simp,HW2.out⟩
  ·
   have t2:=decide_eq_false h2
   rw[t2]
   clear h1 h2
   go_enter func158,ntmps158
   go_wp2_with(go_at_call 225;refine HC.out.mono ?_;rintro e w1 ⟨rfl,hb1⟩;have HW1:=hid hb1;clear hb1)
   go_ret
   exact⟨by simp,HW1.out⟩
 ·
  have t1:=decide_eq_false h1
  rw[t1]
  clear h1
  go_enter func158,ntmps158
  go_wp2_with(go_at_call 225;refine HC.out.mono ?_;rintro e w1 ⟨rfl,hb1⟩;have HW1:=hid hb1;clear hb1)
  go_ret
  exact⟨by simp,HW1.out⟩
theorem smallCode_one(n:Nd)(A:Option Addr)(c:Nat)(w:World)(hN:Nam w)(hr:RdS w w.heap.size A (ofN [n])):Calls prog 158 #[.slice A 1 c] w λe w'=>e=.returned (.bool (sIns n))/\Below w.heap.size w w':=
 smallCode_any (ofN [n]) A c w hN hr (by rw[len_ofN];unfold maxLen;simp)
theorem smallIns_any(i:In)(w:World)(hN:Nam w)(h:i.ok w w.heap.size):
  Calls prog 159 #[inA i] w λe w'=>e=.returned (.bool (sIns i.n))/\Below w.heap.size w w':=by
 have HR:=hid (λo t=>single_rd (o:=o) (t:=t) h rfl)
 have HN:=hid hN
 unfold insC at HR
 unfold inA
 clear h hN
 go_enter func159,ntmps159
 go_wp2_with(go_at_call 158;refine(smallCode_one i.n _ _ _ (HN.out.below (((zx _ _).alloc (zq _) _).alloc (by simp) _)) (HR.out _ _)).mono ?_;rintro e w1 ⟨rfl,hb1⟩;have HW1:=hid (bel_alloc (bel_alloc hb1));clear hb1)
 go_ret
 exact⟨rfl,HW1.out⟩
end Go.Proofs.YteoijlfipmaoeaaGreatDoor
