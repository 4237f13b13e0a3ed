import Derived.Test.YteoijlfipmaoeaaGreatDoorPJ18
import Derived.Deep.OwnRows
set_option linter.unusedVariables false
set_option linter.unusedSimpArgs false
set_option maxRecDepth 100000
set_option maxHeartbeats 4000000
namespace Go.Proofs.YteoijlfipmaoeaaGreatDoor
open Lib (hid)
open Go.RowKit Trx
open Go.Proofs.Tryz
theorem run_nil_code(w:World)(y:Int):(binOp .eql 37 .nilIface (.iface 40 (.int .i64 y))).run prog w=.ok (.bool false) w:=by
 have h:∀d,(Op.equalIn (d+1) 37 .nilIface (.iface 40 (.int .i64 y))).run prog w=.ok false w:=λd=>by
  simp[Op.equalIn,run_underlying underlying37]
 simp only[binOp]
 simp[Op.equal,Op.maxDepth,h 9999]
section
variable{R:Nat}{w:World}{A:Option Addr}{c:Nat}{bs:List UInt8}{p n:Nat}
theorem Rdr.setOther(h:Rdr R w A c bs p n){X:Nat}(hX:R<X)(i:Nat)(u:Value):Rdr R (w.setCell ⟨X,i,none⟩ u) A c bs p n:=
 h.kx (Kx.setCell (M:=Only X) (p:=⟨X,i,none⟩) Kx.refl_ (.inl rfl) u) (jb hX) (λb hb=>by have:b=X:=hb;omega)
@[reducible] def opC(b:Int)(nmv:ByteArray)(At:Option Addr)(mt ct:Nat)(yv:Int)(sv:Bool):Value:=.agg #[.int .i64 b,.string nmv,.int .i64 (Opx.kd b),.slice At mt ct,.int .i64 (Opx.gv b),.int .i64 yv,.bool sv]
theorem operation_ok(h:Rdr R w A c bs p n)(b:Int)(depth:Nat)(hc:opChk depth n b=0)(hd:depth<=32)(hn:n<=512)(hp:p<bs.length):
  Calls prog 280 #[.pointer (some ⟨R,0,none⟩),.int .i64 b,.int .i64 depth] w λe w'=>∃At mt ct nmv yv sv,e=.returned (.tuple #[opC b nmv At mt ct yv sv,.nilIface])/\Rdr R w' A c bs (p+1) (n+1)/\Kx (Only R) w w':=by
 have hcs:Opx.flt b=false/\knd b≠0/\n<512/\(knd b=2->depth<32):=by
  rcases opChk_cases depth n b with⟨_,h1⟩|⟨_,_,h1⟩|⟨_,_,_,h1⟩|⟨_,_,_,_,h1⟩|⟨h1,h2,h3,h4,_⟩
  all_goals first|(rw[h1]at hc;cases hc)|exact⟨h1,h2,h3,h4⟩
 obtain⟨hf,hk,hn2,hdd⟩:=hcs
 rw[knd_kd hk]at hdd
 have HL:Hid (∀o,Calls prog 256 #[.int .i64 b] (w.alloc o) λe w'=>∃At mt ct nmv yv sv,e=.returned (.tuple #[opC b nmv At mt ct yv sv,.nilIface])/\Below (w.alloc o).heap.size (w.alloc o) w'):=hid λo=>by
  refine(Look_op b _ (h.nam.below ((zx _ _).alloc (zq _) o)) (knd_nm hk) hf).mono ?_
  rintro e w' ⟨A,c,rfl,ho'⟩
  exact⟨_,_,_,_,_,_,rfl,ho'.below⟩
 have HRr:=hid h
 have HP:=hid hp
 have hpm:(p:Int)<=9223372036854775806:=by have:=h.hc;have:=h.hm;unfold maxLen at this;omega
 have tn:((n:Int)==512)=false:=by simp;omega
 have hn2':(n:Int)<512:=by omega
 obtain⟨kk,hkk⟩:∃kk,kk=Opx.kd b:=⟨_,rfl⟩
 obtain⟨gg,hgg⟩:∃gg,gg=Opx.gv b:=⟨_,rfl⟩
 unfold opC at HL⊢
 rw[<-hkk,<-hgg]at HL⊢
 rw[<-hkk]at hdd
 have hdi:(depth:Int)<=32:=by omega
 have hRX:=h.lt
 have heq:=run_nil_code
 clear h hk hf hc hp hkk hgg
 have hcase:(kk=2/\((depth:Int)==32)=false)\/((kk==2)=false):=by
  by_cases h2:kk=2
  ·exact .inl ⟨h2,by have:=hdd h2;simp;omega⟩
  ·exact .inr (by simpa using h2)
 clear hdd
 rcases hcase with⟨rfl,td⟩|tk
 all_goals
  go_enter func280,ntmps280
  go_wp2_with(first|(go_at_call 256;(with_reducible refine(HL.out _).mono ?_);rintro e w1 ⟨At,mt,ct,nmv,yv,sv,rfl,hb1⟩;obtain⟨f7,hX1,hbw1⟩:=nine_of hb1;have HR1:=hid (HRr.out.later hbw1);have HK1:Hid (Kx (Only R) w w1):=hid (.of_below hbw1);have d0:=HR1.out.c0;have d1:=HR1.out.c1;have d2:=HR1.out.c2;have df1:=HR1.out.fr 1;have df2:=HR1.out.fr 2;have hltR:=HR1.out.lt;have x0:w1.cell? ⟨w.heap.size,0,none⟩=some (.int .i64 0):=f7 0;have x1:w1.cell? ⟨w.heap.size,1,none⟩=some (.string ⟨#[]⟩):=f7 1;have x2:w1.cell? ⟨w.heap.size,2,none⟩=some (.int .i64 0):=f7 2;have x3:w1.cell? ⟨w.heap.size,3,none⟩=some (.slice none 0 0):=f7 3;have x4:w1.cell? ⟨w.heap.size,4,none⟩=some (.int .i64 0):=f7 4;have x5:w1.cell? ⟨w.heap.size,5,none⟩=some (.int .i64 0):=f7 5;have x6:w1.cell? ⟨w.heap.size,6,none⟩=some (.bool false):=f7 6;have xf:∀i,w1.frozen? ⟨w.heap.size,i,none⟩=false:=(λi=>(hb1.frozen (p:=⟨w.heap.size,i,none⟩) (by simp)).trans (zw _ _ _ _ rfl));clear hb1 f7 hbw1))
  refine bodyPost_ret (v:=.tuple #[.agg #[.int .i64 b,.string nmv,.int .i64 _,.slice At mt ct,.int .i64 gg,.int .i64 yv,.bool sv],.nilIface]) (by simp[results,results280,go_sem,x0,x1,x2,x3,x4,x5,x6,hX1,hRX,jb hRX,(jb hRX).symm];rfl) rfl ?_
  refine⟨At,mt,ct,nmv,yv,sv,rfl,?_,?_⟩
  ·
   have h1:=(HR1.out.setN (n+1)).setAt (q:=p+1) HP.out
   exact((((((((h1.setOther hRX 0 _).setOther hRX 1 _).setOther hRX 2 _).setOther hRX 3 _).setOther hRX 4 _).setOther hRX 5 _).setOther hRX 6 _)).later ((zx _ _).alloc (zq _) _)
  ·exact(((((((((HK1.out.setCell (p:=⟨R,2,none⟩) (.inl rfl) _).setCell (p:=⟨R,1,none⟩) (.inl rfl) _).setCell (p:=⟨w.heap.size,0,none⟩) (.inr (zq _)) _).setCell (p:=⟨w.heap.size,1,none⟩) (.inr (zq _)) _).setCell (p:=⟨w.heap.size,2,none⟩) (.inr (zq _)) _).setCell (p:=⟨w.heap.size,3,none⟩) (.inr (zq _)) _).setCell (p:=⟨w.heap.size,4,none⟩) (.inr (zq _)) _).setCell (p:=⟨w.heap.size,5,none⟩) (.inr (zq _)) _).setCell (p:=⟨w.heap.size,6,none⟩) (.inr (zq _)) _).alloc _
end
section
variable{R:Nat}{w:World}{A:Option Addr}{c:Nat}{bs:List UInt8}{p n:Nat}
theorem spot_new(p:Int)(k:Int)(w:World):Calls prog 292 #[.int .i64 p,.int .i64 k] w λe w'=>∃b o,e=.returned (.iface 115 (.pointer (some ⟨b,o,none⟩)))/\w'.cell? ⟨b,o,none⟩=some (.int .i64 p)/\w'.cell? ⟨b,o+1,none⟩=some (.iface 40 (.int .i64 k))/\w.heap.size<=b/\Below w.heap.size w w':=by
 go_enter func292,ntmps292
 go_wp2
 go_ret
 obtain⟨b,o,h1,h2,h3⟩:=SpotIs.new w p k 120
 simp only[Value.iface.injEq,Value.pointer.injEq,Option.some.injEq,Addr.mk.injEq,and_true,true_and]at h1
 obtain⟨rfl,rfl⟩:=h1
 exact⟨_,_,rfl,h2,h3,zq _,(zx _ _).alloc (zq _) _⟩
theorem fault_new(k:Int)(h:Rdr R w A c bs p n):
  Calls prog 279 #[.pointer (some ⟨R,0,none⟩),.int .i64 k] w λe w'=>∃b o,e=.returned (.iface 115 (.pointer (some ⟨b,o,none⟩)))/\w'.cell? ⟨b,o,none⟩=some (.int .i64 p)/\w'.cell? ⟨b,o+1,none⟩=some (.iface 40 (.int .i64 k))/\w.heap.size<=b/\Below w.heap.size w w':=by
 have c1:=h.c1
 have hlt:=h.lt
 clear h
 have HS:=hid (λw=>spot_new p k w)
 go_enter func279,ntmps279
 go_wp2_with(first|(go_at_call 292;(with_reducible refine(HS.out _).mono ?_);rintro e w1 ⟨sb,so,rfl,hs1,hs2,hs3,hb⟩;have HS1:=hid hs1;have HS2:=hid hs2;have HS3:=hid hs3;have HB:=hid hb;clear hs1 hs2 hs3 hb))
 go_ret
 exact⟨_,_,rfl,HS1.out,HS2.out,HS3.out,HB.out⟩
theorem cell_set_ne{w:World}{b o X i:Nat}{u x:Value}(h:w.cell? ⟨b,o,none⟩=some x)(hb:b≠X):(w.setCell ⟨X,i,none⟩ u).cell? ⟨b,o,none⟩=some x:=
 (zk _ _ _ _ (by intro e;injection e with e;first|exact hb e|exact hb e.symm)).trans h
theorem operation_flt(h:Rdr R w A c bs p n)(b:Int)(depth:Nat)(hf:Opx.flt b=true):
  Calls prog 280 #[.pointer (some ⟨R,0,none⟩),.int .i64 b,.int .i64 depth] w λe w'=>∃v,e=.returned (.tuple #[noV,v])/\SpotIs w' v p 3/\Kx (Only R) w w':=by
 have HL:Hid (∀o,Calls prog 256 #[.int .i64 b] (w.alloc o) λe w'=>e=.returned (.tuple #[noV,.iface 40 (.int .i64 3)])/\Below (w.alloc o).heap.size (w.alloc o) w'):=hid λo=>by
  exact Look_flt b _ hf
 unfold noV at HL⊢
 have HRr:=hid h
 have hRX:=h.lt
 have heq:∀w,_:=λw=>run_eql_code w 3 3
 clear h hf
 go_enter func280,ntmps280
 go_wp2_with(first
   |(go_at_call 256;(with_reducible refine(HL.out _).mono ?_);rintro e w1 ⟨rfl,hb1⟩;obtain⟨f7,hX1,hbw1⟩:=nine_of hb1;have HR1:=hid (HRr.out.later hbw1);have HK1:Hid (Kx (Only R) w w1):=hid (.of_below hbw1);have d0:=HR1.out.c0;have d1:=HR1.out.c1;have d2:=HR1.out.c2;have df1:=HR1.out.fr 1;have df2:=HR1.out.fr 2;have hltR:=HR1.out.lt;have x0:w1.cell? ⟨w.heap.size,0,none⟩=some (.int .i64 0):=f7 0;have x1:w1.cell? ⟨w.heap.size,1,none⟩=some (.string ⟨#[]⟩):=f7 1;have x2:w1.cell? ⟨w.heap.size,2,none⟩=some (.int .i64 0):=f7 2;have x3:w1.cell? ⟨w.heap.size,3,none⟩=some (.slice none 0 0):=f7 3;have x4:w1.cell? ⟨w.heap.size,4,none⟩=some (.int .i64 0):=f7 4;have x5:w1.cell? ⟨w.heap.size,5,none⟩=some (.int .i64 0):=f7 5;have x6:w1.cell? ⟨w.heap.size,6,none⟩=some (.bool false):=f7 6;have xf:∀i,w1.frozen? ⟨w.heap.size,i,none⟩=false:=(λi=>(hb1.frozen (p:=⟨w.heap.size,i,none⟩) (by simp)).trans (zw _ _ _ _ rfl));clear hb1 f7 hbw1)
   |(go_at_call 279;(with_reducible refine(fault_new _ (HR1.out.later ((zx _ _).alloc (zq _) _))).mono ?_);rintro e w2 ⟨sb,so,rfl,hs1,hs2,hs3,hb2⟩;have y0:w2.cell? ⟨w.heap.size,0,none⟩=some (.int .i64 0):=(hb2.cell (p:=⟨w.heap.size,0,none⟩) (by simp;omega)).trans ((zg _ _ _ hX1).trans x0);have y1:w2.cell? ⟨w.heap.size,1,none⟩=some (.string ⟨#[]⟩):=(hb2.cell (p:=⟨w.heap.size,1,none⟩) (by simp;omega)).trans ((zg _ _ _ hX1).trans x1);have y2:w2.cell? ⟨w.heap.size,2,none⟩=some (.int .i64 0):=(hb2.cell (p:=⟨w.heap.size,2,none⟩) (by simp;omega)).trans ((zg _ _ _ hX1).trans x2);have y3:w2.cell? ⟨w.heap.size,3,none⟩=some (.slice none 0 0):=(hb2.cell (p:=⟨w.heap.size,3,none⟩) (by simp;omega)).trans ((zg _ _ _ hX1).trans x3);have y4:w2.cell? ⟨w.heap.size,4,none⟩=some (.int .i64 0):=(hb2.cell (p:=⟨w.heap.size,4,none⟩) (by simp;omega)).trans ((zg _ _ _ hX1).trans x4);have y5:w2.cell? ⟨w.heap.size,5,none⟩=some (.int .i64 0):=(hb2.cell (p:=⟨w.heap.size,5,none⟩) (by simp;omega)).trans ((zg _ _ _ hX1).trans x5);have y6:w2.cell? ⟨w.heap.size,6,none⟩=some (.bool false):=(hb2.cell (p:=⟨w.heap.size,6,none⟩) (by simp;omega)).trans ((zg _ _ _ hX1).trans x6);have yf:∀i,w2.frozen? ⟨w.heap.size,i,none⟩=false:=(λi=>(hb2.frozen (p:=⟨w.heap.size,i,none⟩) (by simp;omega)).trans ((qr _ _ _ (jb hX1)).trans (xf i)));have hsb:w.heap.size<w2.heap.size:=zj hX1 (zy (by simp) hb2.size);have hne:sb≠w.heap.size:=(by simp at hs3;omega);have HS1:=hid hs1;have HS2:=hid hs2;have HK2:=hid ((HK1.out.alloc _).trans (.of_below hb2));clear hs1 hs2 hs3 hb2))
 refine bodyPost_ret (v:=.tuple #[noV,.iface 115 (.pointer (some ⟨sb,so,none⟩))]) (by simp[results,results280,go_sem,noV,y0,y1,y2,y3,y4,y5,y6,hsb]) rfl ?_
 exact⟨_,rfl,⟨sb,so,rfl,(cell_set_ne (cell_set_ne (cell_set_ne (cell_set_ne (cell_set_ne (cell_set_ne (cell_set_ne HS1.out hne) hne) hne) hne) hne) hne) hne),(cell_set_ne (cell_set_ne (cell_set_ne (cell_set_ne (cell_set_ne (cell_set_ne (cell_set_ne HS2.out hne) hne) hne) hne) hne) hne) hne)⟩,(((((((HK2.out.setCell (p:=⟨w.heap.size,0,none⟩) (.inr (zq _)) _).setCell (p:=⟨w.heap.size,1,none⟩) (.inr (zq _)) _).setCell (p:=⟨w.heap.size,2,none⟩) (.inr (zq _)) _).setCell (p:=⟨w.heap.size,3,none⟩) (.inr (zq _)) _).setCell (p:=⟨w.heap.size,4,none⟩) (.inr (zq _)) _).setCell (p:=⟨w.heap.size,5,none⟩) (.inr (zq _)) _).setCell (p:=⟨w.heap.size,6,none⟩) (.inr (zq _)) _)⟩
theorem operation_non(h:Rdr R w A c bs p n)(b:Int)(depth:Nat)(hf:Opx.flt b=false)(hk:knd b=0)(b0: -9223372036854775808<=b)(b1:b<=9223372036854775807):
  Calls prog 280 #[.pointer (some ⟨R,0,none⟩),.int .i64 b,.int .i64 depth] w λe w'=>∃v,e=.returned (.tuple #[noV,v])/\SpotIs w' v p 2/\Kx (Only R) w w':=by
 have HL:Hid (∀o,Calls prog 256 #[.int .i64 b] (w.alloc o) λe w'=>e=.returned (.tuple #[noV,.iface 40 (.int .i64 5)])/\Below (w.alloc o).heap.size (w.alloc o) w'):=hid λo=>by
  have hN:=h.nam.below ((zx _ _).alloc (zq _) o)
  exact Look_none b _ hN b0 b1 hf ((knd_noneE hk).resolve_right (kd_pos b))
 unfold noV at HL⊢
 have HRr:=hid h
 have hRX:=h.lt
 have heq:∀w,_:=λw=>run_eql_code w 5 3
 clear h hf hk
 go_enter func280,ntmps280
 go_wp2_with(first
   |(go_at_call 256;(with_reducible refine(HL.out _).mono ?_);rintro e w1 ⟨rfl,hb1⟩;obtain⟨f7,hX1,hbw1⟩:=nine_of hb1;have HR1:=hid (HRr.out.later hbw1);have HK1:Hid (Kx (Only R) w w1):=hid (.of_below hbw1);have d0:=HR1.out.c0;have d1:=HR1.out.c1;have d2:=HR1.out.c2;have df1:=HR1.out.fr 1;have df2:=HR1.out.fr 2;have hltR:=HR1.out.lt;have x0:w1.cell? ⟨w.heap.size,0,none⟩=some (.int .i64 0):=f7 0;have x1:w1.cell? ⟨w.heap.size,1,none⟩=some (.string ⟨#[]⟩):=f7 1;have x2:w1.cell? ⟨w.heap.size,2,none⟩=some (.int .i64 0):=f7 2;have x3:w1.cell? ⟨w.heap.size,3,none⟩=some (.slice none 0 0):=f7 3;have x4:w1.cell? ⟨w.heap.size,4,none⟩=some (.int .i64 0):=f7 4;have x5:w1.cell? ⟨w.heap.size,5,none⟩=some (.int .i64 0):=f7 5;have x6:w1.cell? ⟨w.heap.size,6,none⟩=some (.bool false):=f7 6;have xf:∀i,w1.frozen? ⟨w.heap.size,i,none⟩=false:=(λi=>(hb1.frozen (p:=⟨w.heap.size,i,none⟩) (by simp)).trans (zw _ _ _ _ rfl));clear hb1 f7 hbw1)
   |(go_at_call 279;(with_reducible refine(fault_new _ (HR1.out.later ((zx _ _).alloc (zq _) _))).mono ?_);rintro e w2 ⟨sb,so,rfl,hs1,hs2,hs3,hb2⟩;have y0:w2.cell? ⟨w.heap.size,0,none⟩=some (.int .i64 0):=(hb2.cell (p:=⟨w.heap.size,0,none⟩) (by simp;omega)).trans ((zg _ _ _ hX1).trans x0);have y1:w2.cell? ⟨w.heap.size,1,none⟩=some (.string ⟨#[]⟩):=(hb2.cell (p:=⟨w.heap.size,1,none⟩) (by simp;omega)).trans ((zg _ _ _ hX1).trans x1);have y2:w2.cell? ⟨w.heap.size,2,none⟩=some (.int .i64 0):=(hb2.cell (p:=⟨w.heap.size,2,none⟩) (by simp;omega)).trans ((zg _ _ _ hX1).trans x2);have y3:w2.cell? ⟨w.heap.size,3,none⟩=some (.slice none 0 0):=(hb2.cell (p:=⟨w.heap.size,3,none⟩) (by simp;omega)).trans ((zg _ _ _ hX1).trans x3);have y4:w2.cell? ⟨w.heap.size,4,none⟩=some (.int .i64 0):=(hb2.cell (p:=⟨w.heap.size,4,none⟩) (by simp;omega)).trans ((zg _ _ _ hX1).trans x4);have y5:w2.cell? ⟨w.heap.size,5,none⟩=some (.int .i64 0):=(hb2.cell (p:=⟨w.heap.size,5,none⟩) (by simp;omega)).trans ((zg _ _ _ hX1).trans x5);have y6:w2.cell? ⟨w.heap.size,6,none⟩=some (.bool false):=(hb2.cell (p:=⟨w.heap.size,6,none⟩) (by simp;omega)).trans ((zg _ _ _ hX1).trans x6);have yf:∀i,w2.frozen? ⟨w.heap.size,i,none⟩=false:=(λi=>(hb2.frozen (p:=⟨w.heap.size,i,none⟩) (by simp;omega)).trans ((qr _ _ _ (jb hX1)).trans (xf i)));have hsb:w.heap.size<w2.heap.size:=zj hX1 (zy (by simp) hb2.size);have hne:sb≠w.heap.size:=(by simp at hs3;omega);have HS1:=hid hs1;have HS2:=hid hs2;have HK2:=hid ((HK1.out.alloc _).trans (.of_below hb2));clear hs1 hs2 hs3 hb2))
 refine bodyPost_ret (v:=.tuple #[noV,.iface 115 (.pointer (some ⟨sb,so,none⟩))]) (by simp[results,results280,go_sem,noV,y0,y1,y2,y3,y4,y5,y6,hsb]) rfl ?_
 exact⟨_,rfl,⟨sb,so,rfl,(cell_set_ne (cell_set_ne (cell_set_ne (cell_set_ne (cell_set_ne (cell_set_ne (cell_set_ne HS1.out hne) hne) hne) hne) hne) hne) hne),(cell_set_ne (cell_set_ne (cell_set_ne (cell_set_ne (cell_set_ne (cell_set_ne (cell_set_ne HS2.out hne) hne) hne) hne) hne) hne) hne)⟩,(((((((HK2.out.setCell (p:=⟨w.heap.size,0,none⟩) (.inr (zq _)) _).setCell (p:=⟨w.heap.size,1,none⟩) (.inr (zq _)) _).setCell (p:=⟨w.heap.size,2,none⟩) (.inr (zq _)) _).setCell (p:=⟨w.heap.size,3,none⟩) (.inr (zq _)) _).setCell (p:=⟨w.heap.size,4,none⟩) (.inr (zq _)) _).setCell (p:=⟨w.heap.size,5,none⟩) (.inr (zq _)) _).setCell (p:=⟨w.heap.size,6,none⟩) (.inr (zq _)) _)⟩
theorem operation_big(h:Rdr R w A c bs p n)(b:Int)(depth:Nat)(hf:Opx.flt b=false)(hk:knd b≠0)(hn:n=512):
  Calls prog 280 #[.pointer (some ⟨R,0,none⟩),.int .i64 b,.int .i64 depth] w λe w'=>∃v,e=.returned (.tuple #[noV,v])/\SpotIs w' v p 7/\Kx (Only R) w w':=by
 have HL:Hid (∀o,Calls prog 256 #[.int .i64 b] (w.alloc o) λe w'=>∃At mt ct nmv yv sv,e=.returned (.tuple #[opC b nmv At mt ct yv sv,.nilIface])/\Below (w.alloc o).heap.size (w.alloc o) w'):=hid λo=>by
  refine(Look_op b _ (h.nam.below ((zx _ _).alloc (zq _) o)) (knd_nm hk) hf).mono ?_
  rintro e w' ⟨A,c,rfl,ho'⟩
  exact⟨_,_,_,_,_,_,rfl,ho'.below⟩
 unfold opC at HL
 unfold noV
 have hkk':=knd_kd hk
 obtain⟨kk,hkk⟩:∃kk,kk=Opx.kd b:=⟨_,rfl⟩
 obtain⟨gg,hgg⟩:∃gg,gg=Opx.gv b:=⟨_,rfl⟩
 rw[<-hkk,<-hgg]at HL
 rw[<-hkk]at hkk'
 have HRr:=hid h
 have hRX:=h.lt
 have heq:=run_nil_code
 have tn:((n:Int)==512)=true:=by simp;omega
 clear h hf hk hn hkk hkk' hgg
 go_enter func280,ntmps280
 go_wp2_with(first
   |(go_at_call 256;(with_reducible refine(HL.out _).mono ?_);rintro e w1 ⟨At,mt,ct,nmv,yv,sv,rfl,hb1⟩;obtain⟨f7,hX1,hbw1⟩:=nine_of hb1;have HR1:=hid (HRr.out.later hbw1);have HK1:Hid (Kx (Only R) w w1):=hid (.of_below hbw1);have d0:=HR1.out.c0;have d1:=HR1.out.c1;have d2:=HR1.out.c2;have df1:=HR1.out.fr 1;have df2:=HR1.out.fr 2;have hltR:=HR1.out.lt;have x0:w1.cell? ⟨w.heap.size,0,none⟩=some (.int .i64 0):=f7 0;have x1:w1.cell? ⟨w.heap.size,1,none⟩=some (.string ⟨#[]⟩):=f7 1;have x2:w1.cell? ⟨w.heap.size,2,none⟩=some (.int .i64 0):=f7 2;have x3:w1.cell? ⟨w.heap.size,3,none⟩=some (.slice none 0 0):=f7 3;have x4:w1.cell? ⟨w.heap.size,4,none⟩=some (.int .i64 0):=f7 4;have x5:w1.cell? ⟨w.heap.size,5,none⟩=some (.int .i64 0):=f7 5;have x6:w1.cell? ⟨w.heap.size,6,none⟩=some (.bool false):=f7 6;have xf:∀i,w1.frozen? ⟨w.heap.size,i,none⟩=false:=(λi=>(hb1.frozen (p:=⟨w.heap.size,i,none⟩) (by simp)).trans (zw _ _ _ _ rfl));clear hb1 f7 hbw1)
   |(go_at_call 279;(with_reducible refine(fault_new _ (HR1.out.later ((zx _ _).alloc (zq _) _))).mono ?_);rintro e w2 ⟨sb,so,rfl,hs1,hs2,hs3,hb2⟩;have y0:w2.cell? ⟨w.heap.size,0,none⟩=some (.int .i64 0):=(hb2.cell (p:=⟨w.heap.size,0,none⟩) (by simp;omega)).trans ((zg _ _ _ hX1).trans x0);have y1:w2.cell? ⟨w.heap.size,1,none⟩=some (.string ⟨#[]⟩):=(hb2.cell (p:=⟨w.heap.size,1,none⟩) (by simp;omega)).trans ((zg _ _ _ hX1).trans x1);have y2:w2.cell? ⟨w.heap.size,2,none⟩=some (.int .i64 0):=(hb2.cell (p:=⟨w.heap.size,2,none⟩) (by simp;omega)).trans ((zg _ _ _ hX1).trans x2);have y3:w2.cell? ⟨w.heap.size,3,none⟩=some (.slice none 0 0):=(hb2.cell (p:=⟨w.heap.size,3,none⟩) (by simp;omega)).trans ((zg _ _ _ hX1).trans x3);have y4:w2.cell? ⟨w.heap.size,4,none⟩=some (.int .i64 0):=(hb2.cell (p:=⟨w.heap.size,4,none⟩) (by simp;omega)).trans ((zg _ _ _ hX1).trans x4);have y5:w2.cell? ⟨w.heap.size,5,none⟩=some (.int .i64 0):=(hb2.cell (p:=⟨w.heap.size,5,none⟩) (by simp;omega)).trans ((zg _ _ _ hX1).trans x5);have y6:w2.cell? ⟨w.heap.size,6,none⟩=some (.bool false):=(hb2.cell (p:=⟨w.heap.size,6,none⟩) (by simp;omega)).trans ((zg _ _ _ hX1).trans x6);have yf:∀i,w2.frozen? ⟨w.heap.size,i,none⟩=false:=(λi=>(hb2.frozen (p:=⟨w.heap.size,i,none⟩) (by simp;omega)).trans ((qr _ _ _ (jb hX1)).trans (xf i)));have hsb:w.heap.size<w2.heap.size:=zj hX1 (zy (by simp) hb2.size);have hne:sb≠w.heap.size:=(by simp at hs3;omega);have HS1:=hid hs1;have HS2:=hid hs2;have HK2:=hid ((HK1.out.alloc _).trans (.of_below hb2));clear hs1 hs2 hs3 hb2))
 refine bodyPost_ret (v:=.tuple #[noV,.iface 115 (.pointer (some ⟨sb,so,none⟩))]) (by simp[results,results280,go_sem,noV,y0,y1,y2,y3,y4,y5,y6,hsb]) rfl ?_
 exact⟨_,rfl,⟨sb,so,rfl,(cell_set_ne (cell_set_ne (cell_set_ne (cell_set_ne (cell_set_ne (cell_set_ne (cell_set_ne HS1.out hne) hne) hne) hne) hne) hne) hne),(cell_set_ne (cell_set_ne (cell_set_ne (cell_set_ne (cell_set_ne (cell_set_ne (cell_set_ne HS2.out hne) hne) hne) hne) hne) hne) hne)⟩,(((((((HK2.out.setCell (p:=⟨w.heap.size,0,none⟩) (.inr (zq _)) _).setCell (p:=⟨w.heap.size,1,none⟩) (.inr (zq _)) _).setCell (p:=⟨w.heap.size,2,none⟩) (.inr (zq _)) _).setCell (p:=⟨w.heap.size,3,none⟩) (.inr (zq _)) _).setCell (p:=⟨w.heap.size,4,none⟩) (.inr (zq _)) _).setCell (p:=⟨w.heap.size,5,none⟩) (.inr (zq _)) _).setCell (p:=⟨w.heap.size,6,none⟩) (.inr (zq _)) _)⟩
theorem operation_deep(h:Rdr R w A c bs p n)(b:Int)(depth:Nat)(hf:Opx.flt b=false)(hk:knd b≠0)(hk2:knd b=2)(hn:n<512)(hd:depth=32):
  Calls prog 280 #[.pointer (some ⟨R,0,none⟩),.int .i64 b,.int .i64 depth] w λe w'=>∃v,e=.returned (.tuple #[noV,v])/\SpotIs w' v p 7/\Kx (Only R) w w':=by
 have HL:Hid (∀o,Calls prog 256 #[.int .i64 b] (w.alloc o) λe w'=>∃At mt ct nmv yv sv,e=.returned (.tuple #[opC b nmv At mt ct yv sv,.nilIface])/\Below (w.alloc o).heap.size (w.alloc o) w'):=hid λo=>by
  refine(Look_op b _ (h.nam.below ((zx _ _).alloc (zq _) o)) (knd_nm hk) hf).mono ?_
  rintro e w' ⟨A,c,rfl,ho'⟩
  exact⟨_,_,_,_,_,_,rfl,ho'.below⟩
 unfold opC at HL
 unfold noV
 have hkk':=knd_kd hk
 obtain⟨kk,hkk⟩:∃kk,kk=Opx.kd b:=⟨_,rfl⟩
 obtain⟨gg,hgg⟩:∃gg,gg=Opx.gv b:=⟨_,rfl⟩
 rw[<-hkk,<-hgg]at HL
 rw[<-hkk]at hkk'
 have HRr:=hid h
 have hRX:=h.lt
 have heq:=run_nil_code
 have tn:((n:Int)==512)=false:=by simp;omega
 have tk:(kk==2)=true:=by rw[<-hkk',hk2];rfl
 have td:((depth:Int)==32)=true:=by simp;omega
 clear h hf hk hn hk2 hd hkk hkk' hgg
 go_enter func280,ntmps280
 go_wp2_with(first
   |(go_at_call 256;(with_reducible refine(HL.out _).mono ?_);rintro e w1 ⟨At,mt,ct,nmv,yv,sv,rfl,hb1⟩;obtain⟨f7,hX1,hbw1⟩:=nine_of hb1;have HR1:=hid (HRr.out.later hbw1);have HK1:Hid (Kx (Only R) w w1):=hid (.of_below hbw1);have d0:=HR1.out.c0;have d1:=HR1.out.c1;have d2:=HR1.out.c2;have df1:=HR1.out.fr 1;have df2:=HR1.out.fr 2;have hltR:=HR1.out.lt;have x0:w1.cell? ⟨w.heap.size,0,none⟩=some (.int .i64 0):=f7 0;have x1:w1.cell? ⟨w.heap.size,1,none⟩=some (.string ⟨#[]⟩):=f7 1;have x2:w1.cell? ⟨w.heap.size,2,none⟩=some (.int .i64 0):=f7 2;have x3:w1.cell? ⟨w.heap.size,3,none⟩=some (.slice none 0 0):=f7 3;have x4:w1.cell? ⟨w.heap.size,4,none⟩=some (.int .i64 0):=f7 4;have x5:w1.cell? ⟨w.heap.size,5,none⟩=some (.int .i64 0):=f7 5;have x6:w1.cell? ⟨w.heap.size,6,none⟩=some (.bool false):=f7 6;have xf:∀i,w1.frozen? ⟨w.heap.size,i,none⟩=false:=(λi=>(hb1.frozen (p:=⟨w.heap.size,i,none⟩) (by simp)).trans (zw _ _ _ _ rfl));clear hb1 f7 hbw1)
   |(go_at_call 279;(with_reducible refine(fault_new _ (HR1.out.later ((zx _ _).alloc (zq _) _))).mono ?_);rintro e w2 ⟨sb,so,rfl,hs1,hs2,hs3,hb2⟩;have y0:w2.cell? ⟨w.heap.size,0,none⟩=some (.int .i64 0):=(hb2.cell (p:=⟨w.heap.size,0,none⟩) (by simp;omega)).trans ((zg _ _ _ hX1).trans x0);have y1:w2.cell? ⟨w.heap.size,1,none⟩=some (.string ⟨#[]⟩):=(hb2.cell (p:=⟨w.heap.size,1,none⟩) (by simp;omega)).trans ((zg _ _ _ hX1).trans x1);have y2:w2.cell? ⟨w.heap.size,2,none⟩=some (.int .i64 0):=(hb2.cell (p:=⟨w.heap.size,2,none⟩) (by simp;omega)).trans ((zg _ _ _ hX1).trans x2);have y3:w2.cell? ⟨w.heap.size,3,none⟩=some (.slice none 0 0):=(hb2.cell (p:=⟨w.heap.size,3,none⟩) (by simp;omega)).trans ((zg _ _ _ hX1).trans x3);have y4:w2.cell? ⟨w.heap.size,4,none⟩=some (.int .i64 0):=(hb2.cell (p:=⟨w.heap.size,4,none⟩) (by simp;omega)).trans ((zg _ _ _ hX1).trans x4);have y5:w2.cell? ⟨w.heap.size,5,none⟩=some (.int .i64 0):=(hb2.cell (p:=⟨w.heap.size,5,none⟩) (by simp;omega)).trans ((zg _ _ _ hX1).trans x5);have y6:w2.cell? ⟨w.heap.size,6,none⟩=some (.bool false):=(hb2.cell (p:=⟨w.heap.size,6,none⟩) (by simp;omega)).trans ((zg _ _ _ hX1).trans x6);have yf:∀i,w2.frozen? ⟨w.heap.size,i,none⟩=false:=(λi=>(hb2.frozen (p:=⟨w.heap.size,i,none⟩) (by simp;omega)).trans ((qr _ _ _ (jb hX1)).trans (xf i)));have hsb:w.heap.size<w2.heap.size:=zj hX1 (zy (by simp) hb2.size);have hne:sb≠w.heap.size:=(by simp at hs3;omega);have HS1:=hid hs1;have HS2:=hid hs2;have HK2:=hid ((HK1.out.alloc _).trans (.of_below hb2));clear hs1 hs2 hs3 hb2))
 refine bodyPost_ret (v:=.tuple #[noV,.iface 115 (.pointer (some ⟨sb,so,none⟩))]) (by simp[results,results280,go_sem,noV,y0,y1,y2,y3,y4,y5,y6,hsb]) rfl ?_
 exact⟨_,rfl,⟨sb,so,rfl,(cell_set_ne (cell_set_ne (cell_set_ne (cell_set_ne (cell_set_ne (cell_set_ne (cell_set_ne HS1.out hne) hne) hne) hne) hne) hne) hne),(cell_set_ne (cell_set_ne (cell_set_ne (cell_set_ne (cell_set_ne (cell_set_ne (cell_set_ne HS2.out hne) hne) hne) hne) hne) hne) hne)⟩,(((((((HK2.out.setCell (p:=⟨w.heap.size,0,none⟩) (.inr (zq _)) _).setCell (p:=⟨w.heap.size,1,none⟩) (.inr (zq _)) _).setCell (p:=⟨w.heap.size,2,none⟩) (.inr (zq _)) _).setCell (p:=⟨w.heap.size,3,none⟩) (.inr (zq _)) _).setCell (p:=⟨w.heap.size,4,none⟩) (.inr (zq _)) _).setCell (p:=⟨w.heap.size,5,none⟩) (.inr (zq _)) _).setCell (p:=⟨w.heap.size,6,none⟩) (.inr (zq _)) _)⟩
theorem operation_err(h:Rdr R w A c bs p n)(b:Int)(depth k:Nat)(hk:opChk depth n b=k)(hk0:k≠0)(hd:depth<=32)(hn:n<=512)(b0: -9223372036854775808<=b)(b1:b<=9223372036854775807):
  Calls prog 280 #[.pointer (some ⟨R,0,none⟩),.int .i64 b,.int .i64 depth] w λe w'=>∃v,e=.returned (.tuple #[noV,v])/\SpotIs w' v p k/\Kx (Only R) w w':=by
 rcases opChk_cases depth n b with⟨hf,h1⟩|⟨hf,hz,h1⟩|⟨hf,hz,hn',h1⟩|⟨hf,hz,hn',hd',h1⟩|⟨_,_,_,_,h1⟩
 ·
  obtain rfl:k=3:=by omega
  exact operation_flt h b depth hf
 ·
  obtain rfl:k=2:=by omega
  exact operation_non h b depth hf hz b0 b1
 ·
  obtain rfl:k=7:=by omega
  exact operation_big h b depth hf hz (by omega)
 ·
  obtain rfl:k=7:=by omega
  exact operation_deep h b depth hf (by omega) hz hn' (by omega)
 ·omega
end
end Go.Proofs.YteoijlfipmaoeaaGreatDoor
namespace Go.Proofs.YteoijlfipmaoeaaGreatDoor.Trx
def rdLab(l:List UInt8)(p:Nat):Rs (List Int):=match rdInt l p with
 |.error e=>.error e
 |.ok (m,l1,p1)=>if 63<m then .error (7,p)else rdTab (m.toNat+1) l1 p1
def preT(pre:List Int):Rs (List Int)->Rs (List Int)
 |.error e=>.error e
 |.ok (L,l,p)=>.ok (pre++L,l,p)
theorem preT_nil(r:Rs (List Int)):preT [] r=r:=by rcases r with e|⟨L,l,p⟩<;>rfl
theorem tab_succ(k:Nat)(l:List UInt8)(p:Nat):rdTab (k+1) l p=match rdInt l p with
  |.error e=>.error e
  |.ok (x,l1,p1)=>preT [x] (rdTab k l1 p1):=by
 rw[rdTab]
 rcases rdInt l p with e|⟨x,l1,p1⟩
 ·rfl
 ·
  simp only
  rcases rdTab k l1 p1 with e|⟨L,l2,p2⟩<;>rfl
theorem preT_preT(a b:List Int)(r:Rs (List Int)):preT a (preT b r)=preT (a++b) r:=by
 rcases r with e|⟨L,l,p⟩
 ·rfl
 ·simp[preT,zt]
end Go.Proofs.YteoijlfipmaoeaaGreatDoor.Trx
namespace Go.Proofs.YteoijlfipmaoeaaGreatDoor
open Lib (hid)
open Go.RowKit Trx
open Go.Proofs.Tryz
section
variable{R:Nat}{w:World}{A:Option Addr}{c:Nat}{bs:List UInt8}{p n:Nat}
def LabP(R:Nat)(w:World)(A:Option Addr)(c:Nat)(bs:List UInt8)(n:Nat):Rs (List Int)->Ending->World->Prop
 |.error er,e,w'=>∃v,e=.returned (.tuple #[.slice none 0 0,v])/\SpotIs w' v er.2 er.1/\Kx (Only R) w w'
 |.ok (L,_,p'),e,w'=>∃A' c',e=.returned (.tuple #[.slice A' L.length c',.nilIface])/\L.length<=c'/\c'<=maxLen/\NewS (Win w.heap.size w') w' w'.heap.size A' (n64s L)/\Rdr R w' A c bs p' n/\Kx (Only R) w w'
def LbG(R:Nat)(w:World)(A:Option Addr)(c:Nat)(bs:List UInt8)(n M p1 Y:Nat)(i:Value)(wr:World):Prop:=
 ∃(j:Nat) (Lj:List Int) (pj:Nat),j<=M/\i=.int .i64 j/\Lj.length=j/\rdTab M (bs.drop p1) p1=preT Lj (rdTab (M-j) (bs.drop pj) pj)/\Rdr R wr A c bs pj n/\Kx (Only R) w wr/\
  (∀i,wr.cell? ⟨Y,i,none⟩=(n64s (Lj++List.replicate (M-j) 0))[i]?)/\(∀i,wr.frozen? ⟨Y,i,none⟩=false)
theorem set_next(Lj:List Int)(k:Nat)(x:Int):(Lj++List.replicate (k+1) 0).set Lj.length x=Lj++[x]++List.replicate k 0:=by
 simp[xe]
theorem no_spot{w:World}{Y sb so:Nat}{zs:List Int}{k:Int}(hY:∀i,w.cell? ⟨Y,i,none⟩=(n64s zs)[i]?)(h:w.cell? ⟨sb,so+1,none⟩=some (.iface 40 (.int .i64 k))):sb≠Y:=λe=>by
 subst e
 rw[hY]at h
 simp[n64s]at h
theorem blk_lt{w:World}{b o:Nat}{vs:List Value}(h:w.cell? ⟨b,o,none⟩=vs[o]?)(ho:o<vs.length):b<w.heap.size:=zn _ _ (h.trans (zb ho))
theorem labels_any(h:Rdr R w A c bs p n):Calls prog 284 #[.pointer (some ⟨R,0,none⟩)] w (LabP R w A c bs n (rdLab (bs.drop p) p)):=by
 have c1:=h.c1
 have hltR:=h.lt
 unfold rdLab
 cases hr:rdInt (bs.drop p) p with
 |error er=>
  have HN:=hid (number_err h er hr)
  clear h hr
  unfold LabP
  go_enter func284,ntmps284
  go_wp2_with(first|(go_at_call 282;(with_reducible refine HN.out.mono ?_);rintro e w1 ⟨v,rfl,⟨sb,so,rfl,hs1,hs2⟩,hk⟩;have HS1:=hid hs1;have HS2:=hid hs2;have HK:=hid hk;clear hs1 hs2 hk))
  go_ret2
  exact⟨_,rfl,⟨sb,so,rfl,HS1.out,HS2.out⟩,HK.out⟩
 |ok r=>
  obtain⟨m,l1,p1⟩:=r
  obtain⟨hm32,hadv⟩:=int_got hr
  obtain⟨hl1,-,hp1⟩:=Adv.dropped hadv h.hp
  have hm0:=((num32_iff _).1 hm32).1
  have hm1:=((num32_iff _).1 hm32).2
  have HN:=hid (number_ok h m l1 p1 hr)
  have HSp:=hid (λw=>spot_any p 7 w)
  simp only
  by_cases hbig:63<m
  ·
   rw[if_pos hbig]
   have tb:decide (64<=m)=true:=by simp;omega
   clear h hr hadv hl1 hm32
   unfold LabP
   go_enter func284,ntmps284
   go_wp2_with(first
    |(go_at_call 282;(with_reducible refine HN.out.mono ?_);rintro e w1 ⟨rfl,hr1,hk⟩;have HK:=hid hk;clear hr1 hk)
    |(go_at_call 292;(with_reducible refine(HSp.out _).mono ?_);rintro e w2 ⟨v,rfl,hs,hb⟩;have HS:=hid hs;have HB:=hid hb;clear hs hb))
   go_ret2
   exact⟨_,rfl,HS.out,HK.out.trans (.of_below HB.out)⟩
  ·
   rw[if_neg hbig]
   have tb:decide (64<=m)=false:=by simp;omega
   subst hl1
   clear h hr hadv hm32
   obtain⟨M,hM⟩:∃M:Nat,M=m.toNat+1:=⟨_,rfl⟩
   have hMi:m+1=(M:Int):=by omega
   rw[<-hM]
   have hM64:M<=64:=by omega
   have hmk:∀w,(Instr.makeSlice 52 (.int .i64 (m+1)) (.int .i64 (m+1))).run prog w=.ok (.slice (some ⟨w.heap.size,0,none⟩) M M) (w.alloc (.cells (madeCells #[.int .i64 0] M) 3)):=λw=>by
    rw[hMi]
    exact run_make_row' 52 3 (.int .i64 0) 8 underlying52 (by kernel_rfl) rfl .i64 .i64 M (by omega) (by omega) w
   obtain⟨P,hP⟩:∃P,P=LabP R w A c bs n (rdTab M (bs.drop p1) p1):=⟨_,rfl⟩
   rw[<-hP]
   have HP:=hid hP
   have HMi:=hid hMi
   clear hP hMi hM
   go_enter func284,ntmps284
   go_wp2_with(first
    |(go_at_call 282;(with_reducible refine HN.out.mono ?_);rintro e w1 ⟨rfl,hr1,hk⟩;have HK:=hid hk;have HR1:=hid hr1;have hltR1:=hr1.lt;have hsz:=hk.size;clear hr1 hk))
   go_loopw [30] (λi wr=>LbG R w A c bs n M p1 w1.heap.size i wr) (λi _=>M-(intOf i).toNat)
   case atStart=>
    refine⟨0,[],p1,qw _,rfl,rfl,(preT_nil _).symm,HR1.out.later ((zx _ _).alloc (zq _) _),HK.out.alloc _,λi=>?_,λi=>zw _ _ _ _ rfl⟩
    rw[zv _ _ _ _ rfl]
    by_cases hi:i<M
    ·simp[madeCells,hi,n64s,Nat.mod_one]
    ·simp[madeCells,hi,n64s]
   case round=>
    obtain⟨j,Lj,pj,hj,rfl,hlj,htab,hrj,hkj,hY,hYf⟩:=hrel
    have hltj:=hrj.lt
    have HRj:=hid hrj
    have HKj:=hid hkj
    have HY:=hid hY
    have HYf:=hid hYf
    have HT:=hid htab
    have hRY:R<w1.heap.size:=hltR1
    by_cases hlt:j<M
    ·
     obtain⟨k,hk⟩:∃k,M-j=k+1:=⟨M-j-1,by omega⟩
     have hYl:w1.heap.size<wr.heap.size:=blk_lt (hY 0) (by simp;omega)
     have hts:=tab_succ k (bs.drop pj) pj
     rw[<-hk]at hts
     cases hrn:rdInt (bs.drop pj) pj with
     |error er=>
      rw[hrn]at hts
      have HNe:=hid (number_err hrj er hrn)
      have HPe:Hid (P=LabP R w A c bs n (.error er)):=hid (by rw[HP.out,HT.out,hts];rfl)
      clear hrj hkj hY hYf htab hts hrn
      have l0:(j:Int)<(M:Int):=by omega
      go_wp2_with(first
       |(go_at_call 282;(with_reducible refine HNe.out.mono ?_);rintro e w2 ⟨v,rfl,⟨sb,so,rfl,hs1,hs2⟩,hk2⟩;have q:w2.cell? ⟨w1.heap.size,j,none⟩=some (.int .i64 0):=hk2.cell (by simp;omega) ((HY.out j).trans (by simp[n64s,hk,hlj]));have qf:w2.frozen? ⟨w1.heap.size,j,none⟩=false:=(hk2.frozen hYl (by simp;omega)).trans (HYf.out j);have hYl2:=zj hYl hk2.size;have hsY:sb≠w1.heap.size:=no_spot (zs:=Lj++List.replicate (M-j) 0) (λi=>(zm (hk2.block _ hYl (by simp;omega))).trans (HY.out i)) hs2;have HS1:=hid hs1;have HS2:=hid hs2;have HK2:=hid (HKj.out.trans hk2);clear hs1 hs2 hk2))
      rw[HPe.out]
      exact⟨_,rfl,⟨sb,so,rfl,cell_set_ne HS1.out hsY,cell_set_ne HS2.out hsY⟩,HK2.out.setCell (p:=⟨w1.heap.size,j,none⟩) (.inr hsz) _⟩
     |ok r=>
      obtain⟨x,l2,p2⟩:=r
      rw[hrn]at hts
      obtain⟨hx32,hadv⟩:=int_got hrn
      obtain⟨hl2,-,-⟩:=Adv.dropped hadv hrj.hp
      subst hl2
      have HNe:=hid (number_ok hrj x _ p2 hrn)
      have HT2:Hid (rdTab M (bs.drop p1) p1=preT (Lj++[x]) (rdTab k (bs.drop p2) p2)):=hid (by rw[HT.out,hts,preT_preT])
      clear hrj hkj hY hYf htab hts hrn hadv hx32
      have l0:(j:Int)<(M:Int):=by omega
      go_wp2_with(first
       |(go_at_call 282;(with_reducible refine HNe.out.mono ?_);rintro e w2 ⟨rfl,hr2,hk2⟩;have q:w2.cell? ⟨w1.heap.size,j,none⟩=some (.int .i64 0):=hk2.cell (by simp;omega) ((HY.out j).trans (by simp[n64s,hk,hlj]));have qf:w2.frozen? ⟨w1.heap.size,j,none⟩=false:=(hk2.frozen hYl (by simp;omega)).trans (HYf.out j);have hYl2:=zj hYl hk2.size;have HY2:=hid (λi=>(zm (a:=⟨w1.heap.size,i,none⟩) (hk2.block _ hYl (by simp;omega))).trans (HY.out i));have HYf2:=hid (λi=>(hk2.frozen (o:=i) hYl (by simp;omega)).trans (HYf.out i));have HR2:=hid hr2;have HK2:=hid (HKj.out.trans hk2);clear hr2 hk2))
      go_roundw
      case rel=>
       have hMj:M-(j+1)=k:=by omega
       have hfin:LbG R w A c bs n M p1 w1.heap.size (.int .i64 ((j:Int)+1)) (w2.setCell ⟨w1.heap.size,j,none⟩ (.int .i64 x)):=by
        refine⟨j+1,Lj++[x],p2,by omega,by simp,by simp[hlj],by rw[hMj];exact HT2.out,HR2.out.setOther hRY _ _,HK2.out.setCell (p:=⟨w1.heap.size,j,none⟩) (.inr hsz) _,λi=>?_,λi=>(za _ _ _ _).trans (HYf2.out i)⟩
        rw[hMj,<-set_next,hlj]
        by_cases hij:i=j
        ·
         subst hij
         rw[ze _ _ _ q,n64s,zr,List.getElem?_set_self (by simp;omega)]
         rfl
        ·
         rw[zk _ _ _ _ (by intro e;injection e with _ e;omega),HY2.out i,hk]
         simp[n64s,List.getElem?_set_ne (by omega:j≠i)]
       first|exact hfin|((repeat apply Exists.intro);exact⟨hfin,rfl⟩)
      case measure=>simp[intOf];omega
    ·
     have hjM:j=M:=by omega
     subst hjM
     have HPe:Hid (P=LabP R w A c bs n (.ok (Lj,bs.drop pj,pj))):=hid (by rw[HP.out,htab,Nat.sub_self];simp[rdTab,preT])
     clear hrj hkj hY hYf htab
     go_wp2_with fail
     rw[HPe.out]
     have hYs:=HY.out
     rw[Nat.sub_self]at hYs
     refine⟨some ⟨w1.heap.size,0,none⟩,j,by rw[hlj];rfl,by omega,by unfold maxLen;omega,λw' ha hne=>?_,HRj.out,HKj.out⟩
     have hpos:0<Lj.length:=by
      rcases jh Lj.length with h0|h0
      ·exact absurd (by simp[zc h0,n64s]) hne
      ·exact h0
     have hYl:w1.heap.size<wr.heap.size:=blk_lt (hYs 0) (by simp;omega)
     refine⟨w1.heap.size,0,rfl,hYl,λi hi=>?_⟩
     rw[qz,ha _ _ ⟨hsz,hYl⟩,hYs i]
     simp
end
end Go.Proofs.YteoijlfipmaoeaaGreatDoor
namespace Go.Proofs.YteoijlfipmaoeaaGreatDoor.Trx
def finE(mayE:Bool):Rs (Fo×Nat×Nat)->Rs (Fo×Nat×Nat)
 |.error e=>.error e
 |.ok ((f,last,n),l,p)=>if last=5/\mayE=false then .error (2,p-1)else .ok ((f,last,n),l,p)
def rdB(fuel depth n:Nat)(b:Int)(l:List UInt8)(p:Nat):Rs (Nd×Nat):=match rdKind l p with
 |.error e=>.error e
 |.ok (t,l1,p1)=>match finE (b==4) (rdL fuel depth n l1 p1)with
  |.error e=>.error e
  |.ok ((body,last,n2),l2,p2)=>if last=5 then(match finE false (rdL fuel depth n2 l2 p2)with
    |.error e=>.error e
    |.ok ((els,_,n3),l3,p3)=>.ok ((⟨b,0,0,0,t,[],body,els,true⟩,n3),l3,p3))
   else .ok ((⟨b,0,0,0,t,[],body,.nil,false⟩,n2),l2,p2)
theorem rdI_block(fuel depth n:Nat)(b:Int)(l:List UInt8)(p:Nat)(h:knd b=2):rdI fuel depth n b l p=rdB fuel (depth+1) n b l p:=by
 unfold rdI rdB
 rw[if_pos h]
 rcases rdKind l p with e|⟨t,l1,p1⟩
 ·rfl
 simp only
 rcases rdL fuel (depth+1) n l1 p1 with e|⟨⟨body,last,n2⟩,l2,p2⟩
 ·rfl
 simp only[finE]
 by_cases h5:last=5
 ·
  by_cases h4:b=4
  ·
   have e4:(b==4)=true:=by simp[h4]
   rw[if_pos ⟨h5,h4⟩,e4,if_neg (by simp)]
   simp only
   rw[if_pos h5]
   rcases rdL fuel (depth+1) n2 l2 p2 with e|⟨⟨els,last2,n3⟩,l3,p3⟩
   ·rfl
   simp only[finE]
   by_cases h7:last2=5
   ·rw[if_pos h7,if_pos (by simp[h7])]
   ·rw[if_neg h7,if_neg (by simp[h7])]
  ·
   have e4:(b==4)=false:=by simp[h4]
   rw[if_neg (by simp[h4]),if_pos h5,e4,if_pos ⟨h5,rfl⟩]
 ·
  rw[if_neg (by simp[h5]),if_neg h5,if_neg (by simp[h5])]
  simp only
  rw[if_neg h5]
end Go.Proofs.YteoijlfipmaoeaaGreatDoor.Trx
namespace Go.Proofs.YteoijlfipmaoeaaGreatDoor
open Lib (hid)
open Go.RowKit Trx
open Go.Proofs.Tryz
def ListP(R:Nat)(w:World)(A:Option Addr)(c:Nat)(bs:List UInt8):Rs (Fo×Nat×Nat)->Ending->World->Prop
 |.error er,e,w'=>∃v,e=.returned (.tuple #[.slice none 0 0,.int .u8 0,v])/\SpotIs w' v er.2 er.1/\Kx (Only R) w w'
 |.ok ((f,last,n'),_,p'),e,w'=>∃A' c',e=.returned (.tuple #[.slice A' (len f) c',.int .u8 last,.nilIface])/\len f<=c'/\c'<=maxLen/\NewF (Win w.heap.size w') w' w'.heap.size A' f/\Rdr R w' A c bs p' n'/\Kx (Only R) w w'
def ListC(fuel:Nat):Prop:=∀(R:Nat) (w:World) (A:Option Addr) (c:Nat) (bs:List UInt8) (p n depth:Nat) (mayE:Bool),Rdr R w A c bs p n->bs.length-p<fuel->depth<=32->n<=512->
 Calls prog 255 #[.pointer (some ⟨R,0,none⟩),.int .i64 depth,.bool mayE] w (ListP R w A c bs (finE mayE (rdL fuel depth n (bs.drop p) p)))
@[reducible] def Two(R X:Nat):Nat->Prop:=λb=>b=R\/b=X
def notIf:Value->Bool
 |.iface _ _=>false
 |_=>true
theorem no_spotA{w:World}{X sb so:Nat}{C:Array Value}{k:Int}(hX:∀i,w.cell? ⟨X,i,none⟩=C[i]?)(hC:C.toList.all notIf=true)(h:w.cell? ⟨sb,so+1,none⟩=some (.iface 40 (.int .i64 k))):sb≠X:=λe=>by
 subst e
 rw[hX]at h
 obtain⟨hi,hg⟩:=Array.getElem?_eq_some_iff.1 h
 have:=List.all_eq_true.1 hC C[so+1] (Array.mem_toList_iff.2 (Array.getElem_mem hi))
 rw[hg]at this
 cases this
theorem World.size_setCell(w:World)(a:Addr)(u:Value):(w.setCell a u).heap.size=w.heap.size:=by simp[World.setCell]
theorem arr_set{w:World}{X k:Nat}{C:Array Value}{u:Value}(hX:∀i,w.cell? ⟨X,i,none⟩=C[i]?)(hk:k<C.size)(i:Nat):(w.setCell ⟨X,k,none⟩ u).cell? ⟨X,i,none⟩=(C.setIfInBounds k u)[i]?:=by
 by_cases e:i=k
 ·
  subst e
  rw[ze _ _ _ ((hX i).trans (Array.getElem?_eq_getElem hk))]
  simp[hk]
 ·rw[zk _ _ _ _ (by intro h;injection h with _ h;omega),hX i,Array.getElem?_setIfInBounds_ne (by omega)]
@[reducible] def insZ(b:Int):Array Value:=#[.int .i64 b,.int .i64 0,.int .i64 0,.int .u64 0,.int .i64 0,.slice none 0 0,.slice none 0 0,.slice none 0 0,.bool false]
def BlkP(R X:Nat)(w:World)(A:Option Addr)(c:Nat)(bs:List UInt8):Rs (Nd×Nat)->Ending->World->Prop
 |.error er,e,w'=>∃(v:Value) (C:In),e=.returned v/\SpotIs w' v er.2 er.1/\(∀i,w'.cell? ⟨X,i,none⟩=(insC C.n C.p)[i]?)/\Kx (Two R X) w w'
 |.ok ((nd,n'),_,p'),e,w'=>∃pl,e=.returned .nilIface/\(∀i,w'.cell? ⟨X,i,none⟩=(insC nd pl)[i]?)/\NewN (Win w.heap.size w') w' w'.heap.size ⟨nd,pl⟩/\Rdr R w' A c bs p' n'/\Kx (Two R X) w w'
section
variable{R X:Nat}{w w':World}{A:Option Addr}{c:Nat}{bs:List UInt8}{p n:Nat}
theorem Kx.two(h:Kx (Only R) w w'):Kx (Two R X) w w':=h.mono λ_ hb=>.inl hb
theorem inI0:inI 0:=⟨by decide,by decide⟩
theorem inU0:inU 0:=⟨by decide,by decide⟩
theorem newN_blk{S:Nat->Prop}{w:World}{B:Nat}{b t:Int}{body els:Fo}{he:Bool}{Ab Ae:Option Addr}{cb ce:Nat}(hb:inI b)(ht:inI t)(hB:NewF S w B Ab body)(hE:NewF S w B Ae els)(l1:len body<=cb)(m1:cb<=maxLen)(l2:len els<=ce)(m2:ce<=maxLen):
  NewN S w B ⟨⟨b,0,0,0,t,[],body,els,he⟩,⟨none,0,Ab,cb,Ae,ce⟩⟩:=λw' ha=>
 ⟨⟨hb,inI0,inI0,inU0,ht,by simp,zq _,qw _,Sl.nil_,l1,m1,l2,m2⟩,hB w' ha,hE w' ha⟩
theorem NewF.none_{S:Nat->Prop}{w:World}{B:Nat}{A:Option Addr}:NewF S w B A .nil:=λ_ _=>RdS.nil_
theorem finE_ok{mayE:Bool}{r:Rs (Fo×Nat×Nat)}{x:(Fo×Nat×Nat)×List UInt8×Nat}(h:finE mayE r=.ok x):r=.ok x/\(x.1.2.1=5->mayE=true):=by
 rcases r with e|⟨⟨f,last,n⟩,l,p⟩
 ·cases h
 ·
  simp only[finE]at h
  split at h
  ·cases h
  ·
   rename_i hn
   injection h with h
   subst h
   refine⟨rfl,λh5=>?_⟩
   cases mayE with
   |true=>rfl
   |false=>exact absurd ⟨h5,rfl⟩ hn
theorem block_any{fuel:Nat}(hL:ListC fuel)(h:Rdr R w A c bs p n)(b:Int)(depth:Nat)(hX:∀i,w.cell? ⟨X,i,none⟩=(insZ b)[i]?)(hf:∀i,w.frozen? ⟨X,i,none⟩=false)(hRX:R<X)(hfu:bs.length-p<fuel)(hd:depth<=32)(hn:n<=512)(hbI:inI b):
  Calls prog 281 #[.pointer (some ⟨R,0,none⟩),.pointer (some ⟨X,0,none⟩),.int .i64 depth] w (BlkP R X w A c bs (rdB fuel depth n b (bs.drop p) p)):=by
 have hXl:X<w.heap.size:=zn _ _ ((hX 0).trans rfl)
 have x0:w.cell? ⟨X,0,none⟩=some (.int .i64 b):=hX 0
 unfold rdB
 cases hk:rdKind (bs.drop p) p with
 |error er=>
  have HN:=hid (result_err h er hk)
  have HX:=hid hX
  clear h hk hX hf hL
  unfold BlkP
  go_enter func281,ntmps281
  go_wp2_with(first|(go_at_call 293;(with_reducible refine HN.out.mono ?_);rintro e w1 ⟨v,rfl,⟨sb,so,rfl,hs1,hs2⟩,hk⟩;have HS1:=hid hs1;have HS2:=hid hs2;have HK:=hid hk;clear hs1 hs2 hk))
  go_ret
  exact⟨_,⟨⟨b,0,0,0,0,[],.nil,.nil,false⟩,⟨none,0,none,0,none,0⟩⟩,rfl,⟨sb,so,rfl,HS1.out,HS2.out⟩,λi=>(zm (a:=⟨X,i,none⟩) (HK.out.block X hXl (by simp;omega))).trans (HX.out i),HK.out.two⟩
 |ok r=>
  obtain⟨t,l1,p1⟩:=r
  obtain⟨ht,hadv⟩:=kind_got hk
  obtain⟨rfl,hpp,hp1⟩:=Adv.dropped hadv h.hp
  have HN:=hid (result_ok h t _ p1 hk)
  simp only
  have HL:=hid hL
  have HX:=hid hX
  have HF:=hid hf
  have hfu1:bs.length-p1<fuel:=by omega
  clear h hk hX hf hL hadv
  have hXl4:∀w1:World,X<w1.heap.size->X<(w1.setCell ⟨X,4,none⟩ (.int .i64 t)).heap.size:=λw1 h=>by simpa[World.setCell]using h
  cases hf1:finE (b==4) (rdL fuel depth n (bs.drop p1) p1)with
  |error er=>
   have HLi:Hid (∀w',Rdr R w' A c bs p1 n->Calls prog 255 #[.pointer (some ⟨R,0,none⟩),.int .i64 depth,.bool (b==4)] w' (ListP R w' A c bs (.error er))):=hid λw' hr=>by
    rw[<-hf1];exact HL.out R w' A c bs p1 n depth (b==4) hr hfu1 hd hn
   unfold ListP at HLi
   clear hf1
   unfold BlkP
   go_enter func281,ntmps281
   go_wp2_with(first
    |(go_at_call 293;(with_reducible refine HN.out.mono ?_);rintro e w1 ⟨rfl,hr1,hk1⟩;have f9:=(λi=>(zm (a:=⟨X,i,none⟩) (hk1.block X hXl (by simp;omega))).trans (HX.out i));have ff:∀i,w1.frozen? ⟨X,i,none⟩=false:=(λi=>(hk1.frozen hXl (by simp;omega)).trans (HF.out i));have y0:w1.cell? ⟨X,0,none⟩=some (.int .i64 b):=f9 0;have y4:w1.cell? ⟨X,4,none⟩=some (.int .i64 0):=f9 4;have yf:=ff 4;have hXl1:=zj hXl hk1.size;have HR1:=hid (hr1.setOther hRX 4 (.int .i64 t));have HA1:=hid (arr_set (k:=4) (u:=.int .i64 t) f9 (by simp));have HK1:=hid ((hk1.two (X:=X)).setCell (p:=⟨X,4,none⟩) (.inl (.inr rfl)) (.int .i64 t));have HFF:=hid (λi=>(za w1 ⟨X,4,none⟩ ⟨X,i,none⟩ (.int .i64 t)).trans (ff i));clear hr1 hk1 f9 ff)
    |(go_at_call 255;(with_reducible refine(HLi.out _ HR1.out).mono ?_);rintro e w2 ⟨v,rfl,⟨sb,so,rfl,hs1,hs2⟩,hk2⟩;have HA2:=hid (λi=>(zm (a:=⟨X,i,none⟩) (hk2.block X (hXl4 _ hXl1) (by simp;omega))).trans (HA1.out i));have HS1:=hid hs1;have HS2:=hid hs2;have HK2:=hid (HK1.out.trans hk2.two);clear hs1 hs2 hk2))
   go_ret
   exact⟨_,⟨⟨b,0,0,0,t,[],.nil,.nil,false⟩,⟨none,0,none,0,none,0⟩⟩,rfl,⟨sb,so,rfl,HS1.out,HS2.out⟩,HA2.out,HK2.out⟩
  |ok x=>
   obtain⟨⟨body,last,n2⟩,l2,p2⟩:=x
   obtain⟨hrl,hmay⟩:=finE_ok hf1
   have hgot:=rdL_got _ _ _ _ _ _ _ _ _ _ hrl hn hd
   obtain⟨rfl,hpp2,hp2⟩:=Adv.dropped hgot.adv hp1
   have HLi:Hid (∀w',Rdr R w' A c bs p1 n->Calls prog 255 #[.pointer (some ⟨R,0,none⟩),.int .i64 depth,.bool (b==4)] w' (ListP R w' A c bs (.ok ((body,last,n2),bs.drop p2,p2)))):=hid λw' hr=>by
    rw[<-hf1];exact HL.out R w' A c bs p1 n depth (b==4) hr hfu1 hd hn
   unfold ListP at HLi
   simp only
   have htI:inI t:=by unfold inI;omega
   have hn2:=hgot.le
   have hlast:=hgot.last
   clear hf1 hrl hgot
   rcases hlast with rfl|rfl
   ·
    have e4:(b==4)=true:=hmay rfl
    rw[if_pos rfl]
    rw[e4]at HLi
    have hfu2:bs.length-p2<fuel:=by omega
    clear hmay
    cases hf2:finE false (rdL fuel depth n2 (bs.drop p2) p2)with
    |error er=>
     have HLj:Hid (∀w',Rdr R w' A c bs p2 n2->Calls prog 255 #[.pointer (some ⟨R,0,none⟩),.int .i64 depth,.bool false] w' (ListP R w' A c bs (.error er))):=hid λw' hr=>by
      rw[<-hf2];exact HL.out R w' A c bs p2 n2 depth false hr hfu2 hd hn2
     unfold ListP at HLj
     clear hf2
     simp only
     unfold BlkP
     go_enter func281,ntmps281
     go_wp2_with(first
      |(go_at_call 293;(with_reducible refine HN.out.mono ?_);rintro e w1 ⟨rfl,hr1,hk1⟩;have f9:=(λi=>(zm (a:=⟨X,i,none⟩) (hk1.block X hXl (by simp;omega))).trans (HX.out i));have ff:∀i,w1.frozen? ⟨X,i,none⟩=false:=(λi=>(hk1.frozen hXl (by simp;omega)).trans (HF.out i));have y0:w1.cell? ⟨X,0,none⟩=some (.int .i64 b):=f9 0;have y4:w1.cell? ⟨X,4,none⟩=some (.int .i64 0):=f9 4;have yf:=ff 4;have hXl1:=zj hXl hk1.size;have HR1:=hid (hr1.setOther hRX 4 (.int .i64 t));have HA1:=hid (arr_set (k:=4) (u:=.int .i64 t) f9 (by simp));have HK1:=hid ((hk1.two (X:=X)).setCell (p:=⟨X,4,none⟩) (.inl (.inr rfl)) (.int .i64 t));have HFF:=hid (λi=>(za w1 ⟨X,4,none⟩ ⟨X,i,none⟩ (.int .i64 t)).trans (ff i));clear hr1 hk1 f9 ff)
      |(go_at_call 255;(with_reducible refine(HLi.out _ HR1.out).mono ?_);rintro e w2 ⟨A2,c2,rfl,lb,mb,nb,hr2,hk2⟩;have HA2:=hid (λi=>(zm (a:=⟨X,i,none⟩) (hk2.block X (hXl4 _ hXl1) (by simp;omega))).trans (HA1.out i));have zf:∀i,w2.frozen? ⟨X,i,none⟩=false:=(λi=>(hk2.frozen (hXl4 _ hXl1) (by simp;omega)).trans (HFF.out i));have z6:w2.cell? ⟨X,6,none⟩=some (.slice none 0 0):=HA2.out 6;have z7:w2.cell? ⟨X,7,none⟩=some (.slice none 0 0):=HA2.out 7;have z8:w2.cell? ⟨X,8,none⟩=some (.bool false):=HA2.out 8;have zf6:=zf 6;have zf7:=zf 7;have zf8:=zf 8;have hXl2:=zj (hXl4 _ hXl1) hk2.size;have HZf:=hid zf;have HNb:=hid nb;have HR2:=hid hr2;have HK2:=hid (HK1.out.trans hk2.two);have hs2w:=zy HK1.out.size hk2.size;have HW2:=hid (show w.heap.size<=(w1.setCell ⟨X,4,none⟩ (.int .i64 t)).heap.size from HK1.out.size);clear zf nb hr2 hk2)
      |(go_at_call 255;(with_reducible refine(HLj.out _ ((HR2.out.setOther hRX 6 (.slice A2 (len body) c2)).setOther hRX 8 (.bool true))).mono ?_);rintro e w3 ⟨v,rfl,⟨sb,so,rfl,hs1,hs2⟩,hk3⟩;have HA2s:=hid (arr_set (k:=8) (u:=.bool true) (arr_set (k:=6) (u:=.slice A2 (len body) c2) HA2.out (by simp)) (by simp));have hXs:X<((w2.setCell ⟨X,6,none⟩ (.slice A2 (len body) c2)).setCell ⟨X,8,none⟩ (.bool true)).heap.size:=(by simpa[World.setCell]using hXl2);have HA3:=hid (λi=>(zm (a:=⟨X,i,none⟩) (hk3.block X hXs (by simp;omega))).trans (HA2s.out i));have q7:w3.cell? ⟨X,7,none⟩=some (.slice none 0 0):=HA3.out 7;have qf7:w3.frozen? ⟨X,7,none⟩=false:=(hk3.frozen hXs (by simp;omega)).trans ((za _ _ _ _).trans ((za _ _ _ _).trans (HZf.out 7)));have hXl3:=zj hXs hk3.size;have HK2s:=hid ((HK2.out.setCell (p:=⟨X,6,none⟩) (.inl (.inr rfl)) (.slice A2 (len body) c2)).setCell (p:=⟨X,8,none⟩) (.inl (.inr rfl)) (.bool true));have HK3:=hid (HK2s.out.trans hk3.two);have hsX:sb≠X:=no_spotA HA3.out rfl hs2;have HS1:=hid hs1;have HS2:=hid hs2;clear hs1 hs2 hk3))
     go_ret
     exact⟨_,⟨⟨b,0,0,0,t,[],body,.nil,true⟩,⟨none,0,A2,c2,none,0⟩⟩,rfl,⟨sb,so,rfl,cell_set_ne HS1.out hsX,cell_set_ne HS2.out hsX⟩,arr_set HA3.out (by simp),HK3.out.setCell (p:=⟨X,7,none⟩) (.inl (.inr rfl)) _⟩
    |ok x=>
     obtain⟨⟨els,last3,n3⟩,l3,p3⟩:=x
     obtain⟨hrl3,-⟩:=finE_ok hf2
     have hgot3:=rdL_got _ _ _ _ _ _ _ _ _ _ hrl3 hn2 hd
     obtain⟨rfl,-,-⟩:=Adv.dropped hgot3.adv hp2
     have HLj:Hid (∀w',Rdr R w' A c bs p2 n2->Calls prog 255 #[.pointer (some ⟨R,0,none⟩),.int .i64 depth,.bool false] w' (ListP R w' A c bs (.ok ((els,last3,n3),bs.drop p3,p3)))):=hid λw' hr=>by
      rw[<-hf2];exact HL.out R w' A c bs p2 n2 depth false hr hfu2 hd hn2
     unfold ListP at HLj
     clear hf2 hrl3 hgot3
     simp only
     unfold BlkP
     go_enter func281,ntmps281
     go_wp2_with(first
      |(go_at_call 293;(with_reducible refine HN.out.mono ?_);rintro e w1 ⟨rfl,hr1,hk1⟩;have f9:=(λi=>(zm (a:=⟨X,i,none⟩) (hk1.block X hXl (by simp;omega))).trans (HX.out i));have ff:∀i,w1.frozen? ⟨X,i,none⟩=false:=(λi=>(hk1.frozen hXl (by simp;omega)).trans (HF.out i));have y0:w1.cell? ⟨X,0,none⟩=some (.int .i64 b):=f9 0;have y4:w1.cell? ⟨X,4,none⟩=some (.int .i64 0):=f9 4;have yf:=ff 4;have hXl1:=zj hXl hk1.size;have HR1:=hid (hr1.setOther hRX 4 (.int .i64 t));have HA1:=hid (arr_set (k:=4) (u:=.int .i64 t) f9 (by simp));have HK1:=hid ((hk1.two (X:=X)).setCell (p:=⟨X,4,none⟩) (.inl (.inr rfl)) (.int .i64 t));have HFF:=hid (λi=>(za w1 ⟨X,4,none⟩ ⟨X,i,none⟩ (.int .i64 t)).trans (ff i));clear hr1 hk1 f9 ff)
      |(go_at_call 255;(with_reducible refine(HLi.out _ HR1.out).mono ?_);rintro e w2 ⟨A2,c2,rfl,lb,mb,nb,hr2,hk2⟩;have HA2:=hid (λi=>(zm (a:=⟨X,i,none⟩) (hk2.block X (hXl4 _ hXl1) (by simp;omega))).trans (HA1.out i));have zf:∀i,w2.frozen? ⟨X,i,none⟩=false:=(λi=>(hk2.frozen (hXl4 _ hXl1) (by simp;omega)).trans (HFF.out i));have z6:w2.cell? ⟨X,6,none⟩=some (.slice none 0 0):=HA2.out 6;have z7:w2.cell? ⟨X,7,none⟩=some (.slice none 0 0):=HA2.out 7;have z8:w2.cell? ⟨X,8,none⟩=some (.bool false):=HA2.out 8;have zf6:=zf 6;have zf7:=zf 7;have zf8:=zf 8;have hXl2:=zj (hXl4 _ hXl1) hk2.size;have HZf:=hid zf;have HNb:=hid nb;have HR2:=hid hr2;have HK2:=hid (HK1.out.trans hk2.two);have hs2w:=zy HK1.out.size hk2.size;have HW2:=hid (show w.heap.size<=(w1.setCell ⟨X,4,none⟩ (.int .i64 t)).heap.size from HK1.out.size);clear zf nb hr2 hk2)
      |(go_at_call 255;(with_reducible refine(HLj.out _ ((HR2.out.setOther hRX 6 (.slice A2 (len body) c2)).setOther hRX 8 (.bool true))).mono ?_);rintro e w3 ⟨A3,c3,rfl,le,me,ne,hr3,hk3⟩;have HA2s:=hid (arr_set (k:=8) (u:=.bool true) (arr_set (k:=6) (u:=.slice A2 (len body) c2) HA2.out (by simp)) (by simp));have hXs:X<((w2.setCell ⟨X,6,none⟩ (.slice A2 (len body) c2)).setCell ⟨X,8,none⟩ (.bool true)).heap.size:=(by simpa[World.setCell]using hXl2);have HA3:=hid (λi=>(zm (a:=⟨X,i,none⟩) (hk3.block X hXs (by simp;omega))).trans (HA2s.out i));have q7:w3.cell? ⟨X,7,none⟩=some (.slice none 0 0):=HA3.out 7;have qf7:w3.frozen? ⟨X,7,none⟩=false:=(hk3.frozen hXs (by simp;omega)).trans ((za _ _ _ _).trans ((za _ _ _ _).trans (HZf.out 7)));have hXl3:=zj hXs hk3.size;have HK2s:=hid ((HK2.out.setCell (p:=⟨X,6,none⟩) (.inl (.inr rfl)) (.slice A2 (len body) c2)).setCell (p:=⟨X,8,none⟩) (.inl (.inr rfl)) (.bool true));have HK3:=hid (HK2s.out.trans hk3.two);have HNe:=hid ne;have HR3:=hid hr3;have HW3:=hid hk3.size;have HBk:=hid hk3.block;clear ne hr3 hk3))
     go_ret
     refine⟨⟨none,0,A2,c2,A3,c3⟩,rfl,arr_set HA3.out (by simp),newN_blk hbI htI ?_ ?_ lb mb le me,HR3.out.setOther hRX 7 _,HK3.out.setCell (p:=⟨X,7,none⟩) (.inl (.inr rfl)) _⟩
     ·
      have hsz3:=HW3.out
      simp only[World.size_setCell]at hsz3
      refine HNb.out.move (agr_of_heap λbl hb=>?_) (λbl hb=>⟨zy HW2.out hb.1,by simp only[World.size_setCell];exact zj hb.2 hsz3⟩) (by simp only[World.size_setCell];exact hsz3)
      have h1:w.heap.size<=bl:=zy HW2.out hb.1
      rw[qa _ _ _ _ (by simp;omega),HBk.out bl (by simp only[World.size_setCell];exact hb.2) (by have:=HR2.out.lt;simp;omega),qa _ _ _ _ (by simp;omega),qa _ _ _ _ (by simp;omega)]
     ·
      refine HNe.out.move (agr_of_heap λbl hb=>?_) (λbl hb=>⟨?_,by simp only[World.size_setCell];exact hb.2⟩) (by simp only[World.size_setCell];exact zq _)
      ·
       have h1:=hb.1
       simp only[World.size_setCell]at h1
       rw[qa _ _ _ _ (by simp;omega)]
      ·
       have h1:=hb.1
       simp only[World.size_setCell]at h1
       omega
   ·
    rw[if_neg (by decide)]
    clear hmay
    unfold BlkP
    go_enter func281,ntmps281
    go_wp2_with(first
     |(go_at_call 293;(with_reducible refine HN.out.mono ?_);rintro e w1 ⟨rfl,hr1,hk1⟩;have f9:=(λi=>(zm (a:=⟨X,i,none⟩) (hk1.block X hXl (by simp;omega))).trans (HX.out i));have ff:∀i,w1.frozen? ⟨X,i,none⟩=false:=(λi=>(hk1.frozen hXl (by simp;omega)).trans (HF.out i));have y0:w1.cell? ⟨X,0,none⟩=some (.int .i64 b):=f9 0;have y4:w1.cell? ⟨X,4,none⟩=some (.int .i64 0):=f9 4;have yf:=ff 4;have hXl1:=zj hXl hk1.size;have HR1:=hid (hr1.setOther hRX 4 (.int .i64 t));have HA1:=hid (arr_set (k:=4) (u:=.int .i64 t) f9 (by simp));have HK1:=hid ((hk1.two (X:=X)).setCell (p:=⟨X,4,none⟩) (.inl (.inr rfl)) (.int .i64 t));have HFF:=hid (λi=>(za w1 ⟨X,4,none⟩ ⟨X,i,none⟩ (.int .i64 t)).trans (ff i));clear hr1 hk1 f9 ff)
     |(go_at_call 255;(with_reducible refine(HLi.out _ HR1.out).mono ?_);rintro e w2 ⟨A2,c2,rfl,lb,mb,nb,hr2,hk2⟩;have HA2:=hid (λi=>(zm (a:=⟨X,i,none⟩) (hk2.block X (hXl4 _ hXl1) (by simp;omega))).trans (HA1.out i));have zf:∀i,w2.frozen? ⟨X,i,none⟩=false:=(λi=>(hk2.frozen (hXl4 _ hXl1) (by simp;omega)).trans (HFF.out i));have z6:w2.cell? ⟨X,6,none⟩=some (.slice none 0 0):=HA2.out 6;have z7:w2.cell? ⟨X,7,none⟩=some (.slice none 0 0):=HA2.out 7;have z8:w2.cell? ⟨X,8,none⟩=some (.bool false):=HA2.out 8;have zf6:=zf 6;have zf7:=zf 7;have zf8:=zf 8;have hXl2:=zj (hXl4 _ hXl1) hk2.size;have HZf:=hid zf;have HNb:=hid nb;have HR2:=hid hr2;have HK2:=hid (HK1.out.trans hk2.two);have hs2w:=zy HK1.out.size hk2.size;have HW2:=hid (show w.heap.size<=(w1.setCell ⟨X,4,none⟩ (.int .i64 t)).heap.size from HK1.out.size);clear zf nb hr2 hk2))
    go_ret
    refine⟨⟨none,0,A2,c2,none,0⟩,rfl,arr_set HA2.out (by simp),newN_blk hbI htI ?_ NewF.none_ lb mb (zq _) (qw _),HR2.out.setOther hRX 6 _,HK2.out.setCell (p:=⟨X,6,none⟩) (.inl (.inr rfl)) _⟩
    refine HNb.out.move (agr_of_heap λbl hb=>?_) (λbl hb=>⟨zy HW2.out hb.1,by simp only[World.size_setCell];exact hb.2⟩) (by simp only[World.size_setCell];exact zq _)
    have h1:w.heap.size<=bl:=zy HW2.out hb.1
    rw[qa _ _ _ _ (by simp;omega)]
end
end Go.Proofs.YteoijlfipmaoeaaGreatDoor
