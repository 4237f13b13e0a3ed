import Derived.Test.YteoijlfipmaoeaaGreatDoorPJ20
set_option linter.unusedVariables false
set_option linter.unusedSimpArgs false
set_option maxRecDepth 100000
set_option maxHeartbeats 8000000
namespace Go.Proofs.YteoijlfipmaoeaaGreatDoor
open Lib (hid)
open Go.RowKit Trx
open Go.Proofs.Tryz
def InsP(R:Nat)(w:World)(A:Option Addr)(c:Nat)(bs:List UInt8):Rs (Nd×Nat)->Ending->World->Prop
 |.error er,e,w'=>∃(v:Value) (C:In),e=.returned (.tuple #[.agg (insC C.n C.p),v])/\SpotIs w' v er.2 er.1/\Kx (Only R) w w'
 |.ok ((nd,n'),_,p'),e,w'=>∃pl,e=.returned (.tuple #[.agg (insC nd pl),.nilIface])/\NewN (Win w.heap.size w') w' w'.heap.size ⟨nd,pl⟩/\Rdr R w' A c bs p' n'/\Kx (Only R) w w'
structure Is(R:Nat)(w W:World)(Z:Nat)(C:Array Value):Prop where
 hx:∀i,W.cell? ⟨w.heap.size,i,none⟩=(insZ 0)[i]?
 hz:∀i,W.cell? ⟨Z,i,none⟩=C[i]?
 fx:∀i,W.frozen? ⟨w.heap.size,i,none⟩=false
 fz:∀i,W.frozen? ⟨Z,i,none⟩=false
 lx:w.heap.size<W.heap.size
 lz:Z<W.heap.size
 k:Kx (Only R) w W
 xz:w.heap.size<Z
 rx:R<w.heap.size
theorem Is.set{R Z:Nat}{w W:World}{C:Array Value}(S:Is R w W Z C)(i:Nat)(v:Value)(hi:i<C.size):Is R w (W.setCell ⟨Z,i,none⟩ v) Z (C.setIfInBounds i v):=
 ⟨λj=>(zk W ⟨Z,i,none⟩ ⟨w.heap.size,j,none⟩ v (by intro e;injection e with e;have:=S.xz;omega)).trans (S.hx j),arr_set S.hz hi,λj=>(za W ⟨Z,i,none⟩ ⟨w.heap.size,j,none⟩ v).trans (S.fx j),λj=>(za W ⟨Z,i,none⟩ ⟨Z,j,none⟩ v).trans (S.fz j),
  (World.size_setCell W ⟨Z,i,none⟩ v).symm▸S.lx,(World.size_setCell W ⟨Z,i,none⟩ v).symm▸S.lz,S.k.setCell (p:=⟨Z,i,none⟩) (.inr (xh S.xz)) v,S.xz,S.rx⟩
theorem Is.step{R Z:Nat}{w W W':World}{C:Array Value}(S:Is R w W Z C)(k:Kx (Only R) W W'):Is R w W' Z C:=by
 have hr:=S.rx
 have hxz:=S.xz
 exact⟨λi=>(zm (a:=⟨w.heap.size,i,none⟩) (k.block _ S.lx (by simp;omega))).trans (S.hx i),λi=>(zm (a:=⟨Z,i,none⟩) (k.block _ S.lz (by simp;omega))).trans (S.hz i),
  λi=>(k.frozen S.lx (by simp;omega)).trans (S.fx i),λi=>(k.frozen S.lz (by simp;omega)).trans (S.fz i),zj S.lx k.size,zj S.lz k.size,S.k.trans k,S.xz,S.rx⟩
theorem Is.first{R n p c:Nat}{w w1 w2:World}{b g:Int}{tO:TypeId}{nmv:ByteArray}{At:Option Addr}{mt ct:Nat}{yv k4:Int}{sv:Bool}{A:Option Addr}{bs:List UInt8}(hR:R<w.heap.size)(k:Kx (Only R) (w.alloc (.cells (insZ 0) 59)) w1)(hr:Rdr R w1 A c bs p n)
  (hb:Below ((w1.alloc (.cells #[.int .i64 b,.string nmv,.int .i64 k4,.slice At mt ct,.int .i64 g,.int .i64 yv,.bool sv] tO)).alloc (.cells (insZ b) 59)).heap.size ((w1.alloc (.cells #[.int .i64 b,.string nmv,.int .i64 k4,.slice At mt ct,.int .i64 g,.int .i64 yv,.bool sv] tO)).alloc (.cells (insZ b) 59)) w2):
  Is R w w2 (w1.heap.size+1) (insZ b)/\w1.heap.size<w2.heap.size/\w2.cell? ⟨w1.heap.size,4,none⟩=some (.int .i64 g)/\Rdr R w2 A c bs p n:=by
 have hX:w.heap.size<w1.heap.size:=zj (by simp) k.size
 exact⟨⟨λi=>(hb.cell (p:=⟨w.heap.size,i,none⟩) (by simp;omega)).trans (((zg _ _ ⟨w.heap.size,i,none⟩ (by simp;omega)).trans (zg _ _ ⟨w.heap.size,i,none⟩ hX)).trans ((zm (a:=⟨w.heap.size,i,none⟩) (k.block _ (by simp) (by simp;omega))).trans (zv _ _ _ _ rfl))),
  λi=>(hb.cell (p:=⟨w1.heap.size+1,i,none⟩) (by simp)).trans (zv _ _ _ _ (by simp)),
  λi=>(hb.frozen (p:=⟨w.heap.size,i,none⟩) (by simp;omega)).trans (((qr _ _ ⟨w.heap.size,i,none⟩ (by simp;omega)).trans (qr _ _ ⟨w.heap.size,i,none⟩ (jb hX))).trans ((k.frozen (by simp) (by simp;omega)).trans (zw _ _ _ _ rfl))),
  λi=>(hb.frozen (p:=⟨w1.heap.size+1,i,none⟩) (by simp)).trans (zw _ _ _ _ (by simp)),
  zj (by simp;omega) hb.size,zj (by simp) hb.size,(((((Kx.refl_.alloc _).trans k).alloc _).alloc _).trans (.of_below hb)),by omega,hR⟩,
  zj (by simp;omega) hb.size,(hb.cell (p:=⟨w1.heap.size,4,none⟩) (by simp;omega)).trans ((zg _ _ _ (by simp)).trans (zv _ _ _ _ rfl)),(hr.later (((zx _ _).alloc (zq _) _).alloc (by simp) _)).later hb⟩
theorem Is.x{R Z:Nat}{w W:World}{C:Array Value}(S:Is R w W Z C):W.cell? ⟨w.heap.size,0,none⟩=some (.int .i64 0)/\W.cell? ⟨w.heap.size,1,none⟩=some (.int .i64 0)/\W.cell? ⟨w.heap.size,2,none⟩=some (.int .i64 0)/\W.cell? ⟨w.heap.size,3,none⟩=some (.int .u64 0)/\W.cell? ⟨w.heap.size,4,none⟩=some (.int .i64 0)/\W.cell? ⟨w.heap.size,5,none⟩=some (.slice none 0 0)/\W.cell? ⟨w.heap.size,6,none⟩=some (.slice none 0 0)/\W.cell? ⟨w.heap.size,7,none⟩=some (.slice none 0 0)/\W.cell? ⟨w.heap.size,8,none⟩=some (.bool false)/\(∀i,W.frozen? ⟨w.heap.size,i,none⟩=false)/\w.heap.size<W.heap.size:=
 ⟨S.hx 0,S.hx 1,S.hx 2,S.hx 3,S.hx 4,S.hx 5,S.hx 6,S.hx 7,S.hx 8,S.fx,S.lx⟩
theorem Is.z{R Z:Nat}{w W:World}{v0 v1 v2 v3 v4 v5 v6 v7 v8:Value}(S:Is R w W Z #[v0,v1,v2,v3,v4,v5,v6,v7,v8]):W.cell? ⟨Z,0,none⟩=some v0/\W.cell? ⟨Z,1,none⟩=some v1/\W.cell? ⟨Z,2,none⟩=some v2/\W.cell? ⟨Z,3,none⟩=some v3/\W.cell? ⟨Z,4,none⟩=some v4/\W.cell? ⟨Z,5,none⟩=some v5/\W.cell? ⟨Z,6,none⟩=some v6/\W.cell? ⟨Z,7,none⟩=some v7/\W.cell? ⟨Z,8,none⟩=some v8/\(∀i,W.frozen? ⟨Z,i,none⟩=false)/\Z<W.heap.size:=
 ⟨S.hz 0,S.hz 1,S.hz 2,S.hz 3,S.hz 4,S.hz 5,S.hz 6,S.hz 7,S.hz 8,S.fz,S.lz⟩
theorem Kx.set9{M:Nat->Prop}{w W:World}{X:Nat}{v0 v1 v2 v3 v4 v5 v6 v7 v8:Value}(h:Kx M w W)(hX:M X\/w.heap.size<=X):Kx M w (((((((((W.setCell ⟨X,0,none⟩ v0).setCell ⟨X,1,none⟩ v1).setCell ⟨X,2,none⟩ v2).setCell ⟨X,3,none⟩ v3).setCell ⟨X,4,none⟩ v4).setCell ⟨X,5,none⟩ v5).setCell ⟨X,6,none⟩ v6).setCell ⟨X,7,none⟩ v7).setCell ⟨X,8,none⟩ v8):=(((((((((h.setCell (p:=⟨X,0,none⟩) hX v0).setCell (p:=⟨X,1,none⟩) hX v1).setCell (p:=⟨X,2,none⟩) hX v2).setCell (p:=⟨X,3,none⟩) hX v3).setCell (p:=⟨X,4,none⟩) hX v4).setCell (p:=⟨X,5,none⟩) hX v5).setCell (p:=⟨X,6,none⟩) hX v6).setCell (p:=⟨X,7,none⟩) hX v7).setCell (p:=⟨X,8,none⟩) hX v8)
theorem cell_set9{W:World}{b o X:Nat}{x v0 v1 v2 v3 v4 v5 v6 v7 v8:Value}(h:W.cell? ⟨b,o,none⟩=some x)(hb:b≠X):(((((((((W.setCell ⟨X,0,none⟩ v0).setCell ⟨X,1,none⟩ v1).setCell ⟨X,2,none⟩ v2).setCell ⟨X,3,none⟩ v3).setCell ⟨X,4,none⟩ v4).setCell ⟨X,5,none⟩ v5).setCell ⟨X,6,none⟩ v6).setCell ⟨X,7,none⟩ v7).setCell ⟨X,8,none⟩ v8).cell? ⟨b,o,none⟩=some x:=(cell_set_ne (cell_set_ne (cell_set_ne (cell_set_ne (cell_set_ne (cell_set_ne (cell_set_ne (cell_set_ne (cell_set_ne h hb) hb) hb) hb) hb) hb) hb) hb) hb)
theorem Rdr.set9{R X n p c:Nat}{W:World}{A:Option Addr}{bs:List UInt8}{v0 v1 v2 v3 v4 v5 v6 v7 v8:Value}(h:Rdr R W A c bs p n)(hX:R<X):Rdr R (((((((((W.setCell ⟨X,0,none⟩ v0).setCell ⟨X,1,none⟩ v1).setCell ⟨X,2,none⟩ v2).setCell ⟨X,3,none⟩ v3).setCell ⟨X,4,none⟩ v4).setCell ⟨X,5,none⟩ v5).setCell ⟨X,6,none⟩ v6).setCell ⟨X,7,none⟩ v7).setCell ⟨X,8,none⟩ v8) A c bs p n:=(((((((((h.setOther hX 0 v0).setOther hX 1 v1).setOther hX 2 v2).setOther hX 3 v3).setOther hX 4 v4).setOther hX 5 v5).setOther hX 6 v6).setOther hX 7 v7).setOther hX 8 v8)
section
variable{R:Nat}{w:World}{A:Option Addr}{c:Nat}{bs:List UInt8}{p n:Nat}
theorem hop(h:Rdr R w A c bs p n)(b:Int)(depth:Nat)(hc:opChk depth n b=0)(hd:depth<=32)(hn:n<=512)(hp:p<bs.length):Hid (∀o,Calls prog 280 #[.pointer (some ⟨R,0,none⟩),.int .i64 b,.int .i64 depth] (w.alloc o) λe w'=>∃At mt ct nmv yv sv,e=.returned (.tuple #[opC b nmv At mt ct yv sv,.nilIface])/\Rdr R w' A c bs (p+1) (n+1)/\Kx (Only R) (w.alloc o) w'):=
 hid λo=>operation_ok (h.later ((zx _ _).alloc (zq _) o)) b depth hc hd hn hp
theorem newN_plain{S:Nat->Prop}{w:World}{B:Nat}{b a a2 v:Int}(hb:inI b)(ha:inI a)(ha2:inI a2)(hv:inU v):NewN S w B ⟨⟨b,a,a2,v,0,[],.nil,.nil,false⟩,⟨none,0,none,0,none,0⟩⟩:=λ_ _=>
 ⟨⟨hb,ha,ha2,hv,inI0,by simp,zq _,qw _,Sl.nil_,zq _,qw _,zq _,qw _⟩,RdS.nil_,RdS.nil_⟩
theorem ins_0(h:Rdr R w A c bs p n)(b:Int)(depth:Nat)(hc:opChk depth n b=0)(hd:depth<=32)(hn:n<=512)(hp:p<bs.length)(hbI:inI b)(hq:bh b (Opx.kd b)=0):
  Calls prog 270 #[.pointer (some ⟨R,0,none⟩),.int .i64 b,.int .i64 depth] w (InsP R w A c bs (.ok ((⟨b,0,0,0,0,[],.nil,.nil,false⟩,n+1),bs.drop (p+1),p+1))):=by
 have hRX:=h.lt
 have HOp:=hop h b depth hc hd hn hp
 have HBh:=hid (λ(w:World) (nmv:ByteArray) (tv:Value) (g y:Int) (sv:Bool)=>behind_any b (Opx.kd b) g y nmv tv sv w)
 rw[hq]at HBh
 unfold opC at HOp
 clear h hc hq
 unfold InsP insC
 dsimp only
 go_enter func270,ntmps270
 go_wp2_with(first
   |(go_at_call 280;((with_reducible refine(HOp.out _).mono ?_);rintro e w1 ⟨At,mt,ct,nmv,yv,sv,rfl,hr1,hk1⟩;have hX1:w.heap.size<w1.heap.size:=zj (by simp) hk1.size;have HR1:=hid hr1;have HK1:=hid hk1;clear hr1 hk1))
   |(go_at_call 260;((with_reducible refine(HBh.out _ _ _ _ _ _).mono ?_);rintro e w2 ⟨rfl,hb2⟩;obtain⟨hsw,hY,yg,hrw⟩:=Is.first hRX HK1.out HR1.out hb2;have HSw2:=hid hsw;have HRw2:=hid hrw;clear hsw hrw hb2;obtain⟨x0,x1,x2,x3,x4,x5,x6,x7,x8,xf,hXl⟩:=HSw2.out.x;obtain⟨z0,z1,z2,z3,z4,z5,z6,z7,z8,zf,hZl⟩:=HSw2.out.z;)))
 have hRZ:R<w1.heap.size+1:=by omega
 refine bodyPost_ret (v:=.tuple #[.agg #[.int .i64 b,.int .i64 0,.int .i64 0,.int .u64 0,.int .i64 0,.slice none 0 0,.slice none 0 0,.slice none 0 0,.bool false],.nilIface]) (by simp[results,results270,go_sem,x0,x1,x2,x3,x4,x5,x6,x7,x8,z0,z1,z2,z3,z4,z5,z6,z7,z8,hXl]) rfl ?_
 refine⟨⟨none,0,none,0,none,0⟩,rfl,?_,HRw2.out.set9 hRX,HSw2.out.k.set9 (.inr (zq _))⟩
 exact newN_plain hbI inI0 inI0 inU0
theorem ins_6e(h:Rdr R w A c bs p n)(b:Int)(depth:Nat)(hc:opChk depth n b=0)(hd:depth<=32)(hn:n<=512)(hp:p<bs.length)(hbI:inI b)(hq:bh b (Opx.kd b)=6)(er:Nat×Nat)(hr1_:rdMust 0 (bs.drop (p+1)) (p+1)=.error er):
  Calls prog 270 #[.pointer (some ⟨R,0,none⟩),.int .i64 b,.int .i64 depth] w (InsP R w A c bs (.error er)):=by
 have hRX:=h.lt
 have HOp:=hop h b depth hc hd hn hp
 have HBh:=hid (λ(w:World) (nmv:ByteArray) (tv:Value) (g y:Int) (sv:Bool)=>behind_any b (Opx.kd b) g y nmv tv sv w)
 rw[hq]at HBh
 unfold opC at HOp
 have HE1:=hid (λwx (h:Rdr R wx A c bs (p+1) (n+1))=>zero_err h er hr1_)
 clear hr1_
 clear h hc hq
 unfold InsP insC
 dsimp only
 go_enter func270,ntmps270
 go_wp2_with(first
   |(go_at_call 280;((with_reducible refine(HOp.out _).mono ?_);rintro e w1 ⟨At,mt,ct,nmv,yv,sv,rfl,hr1,hk1⟩;have hX1:w.heap.size<w1.heap.size:=zj (by simp) hk1.size;have HR1:=hid hr1;have HK1:=hid hk1;clear hr1 hk1))
   |(go_at_call 260;((with_reducible refine(HBh.out _ _ _ _ _ _).mono ?_);rintro e w2 ⟨rfl,hb2⟩;obtain⟨hsw,hY,yg,hrw⟩:=Is.first hRX HK1.out HR1.out hb2;have HSw2:=hid hsw;have HRw2:=hid hrw;clear hsw hrw hb2;obtain⟨x0,x1,x2,x3,x4,x5,x6,x7,x8,xf,hXl⟩:=HSw2.out.x;obtain⟨z0,z1,z2,z3,z4,z5,z6,z7,z8,zf,hZl⟩:=HSw2.out.z;))
   |(go_at_call 283;(with_reducible refine(HE1.out _ HRw2.out).mono ?_);rintro e w3 ⟨v,rfl,⟨sb,so,rfl,hs1,hs2⟩,hk⟩;clear x0 x1 x2 x3 x4 x5 x6 x7 x8 z0 z1 z2 z3 z4 z5 z6 z7 z8 xf zf hXl hZl;have HSw3:Hid (Is R w w3 (w1.heap.size+1) #[.int .i64 b,.int .i64 0,.int .i64 0,.int .u64 0,.int .i64 0,.slice none 0 0,.slice none 0 0,.slice none 0 0,.bool false]):=hid (HSw2.out.step hk);have hsX:sb≠w.heap.size:=no_spotA HSw3.out.hx rfl hs2;have hsZ:sb≠(w1.heap.size+1):=no_spotA HSw3.out.hz rfl hs2;have HS1:=hid hs1;have HS2:=hid hs2;obtain⟨x0,x1,x2,x3,x4,x5,x6,x7,x8,xf,hXl⟩:=HSw3.out.x;obtain⟨z0,z1,z2,z3,z4,z5,z6,z7,z8,zf,hZl⟩:=HSw3.out.z;clear hs1 hs2 hk))
 have hRZ:R<w1.heap.size+1:=by omega
 refine bodyPost_ret (v:=.tuple #[.agg #[.int .i64 b,.int .i64 0,.int .i64 0,.int .u64 0,.int .i64 0,.slice none 0 0,.slice none 0 0,.slice none 0 0,.bool false],.iface 115 (.pointer (some ⟨sb,so,none⟩))]) (by simp[results,results270,go_sem,x0,x1,x2,x3,x4,x5,x6,x7,x8,z0,z1,z2,z3,z4,z5,z6,z7,z8,hXl]) rfl ?_
 exact⟨_,⟨⟨b,0,0,0,0,[],.nil,.nil,false⟩,⟨none,0,none,0,none,0⟩⟩,rfl,⟨sb,so,rfl,cell_set9 HS1.out hsX,cell_set9 HS2.out hsX⟩,HSw3.out.k.set9 (.inr (zq _))⟩
theorem ins_6k(h:Rdr R w A c bs p n)(b:Int)(depth:Nat)(hc:opChk depth n b=0)(hd:depth<=32)(hn:n<=512)(hp:p<bs.length)(hbI:inI b)(hq:bh b (Opx.kd b)=6)(u:Unit)(l':List UInt8)(p':Nat)(hr1_:rdMust 0 (bs.drop (p+1)) (p+1)=.ok (u,l',p')):
  Calls prog 270 #[.pointer (some ⟨R,0,none⟩),.int .i64 b,.int .i64 depth] w (InsP R w A c bs (.ok ((⟨b,0,0,0,0,[],.nil,.nil,false⟩,n+1),l',p'))):=by
 have hRX:=h.lt
 have HOp:=hop h b depth hc hd hn hp
 have HBh:=hid (λ(w:World) (nmv:ByteArray) (tv:Value) (g y:Int) (sv:Bool)=>behind_any b (Opx.kd b) g y nmv tv sv w)
 rw[hq]at HBh
 unfold opC at HOp
 have HE1:=hid (λwx (h:Rdr R wx A c bs (p+1) (n+1))=>zero_ok h u l' p' hr1_)
 clear hr1_
 clear h hc hq
 unfold InsP insC
 dsimp only
 go_enter func270,ntmps270
 go_wp2_with(first
   |(go_at_call 280;((with_reducible refine(HOp.out _).mono ?_);rintro e w1 ⟨At,mt,ct,nmv,yv,sv,rfl,hr1,hk1⟩;have hX1:w.heap.size<w1.heap.size:=zj (by simp) hk1.size;have HR1:=hid hr1;have HK1:=hid hk1;clear hr1 hk1))
   |(go_at_call 260;((with_reducible refine(HBh.out _ _ _ _ _ _).mono ?_);rintro e w2 ⟨rfl,hb2⟩;obtain⟨hsw,hY,yg,hrw⟩:=Is.first hRX HK1.out HR1.out hb2;have HSw2:=hid hsw;have HRw2:=hid hrw;clear hsw hrw hb2;obtain⟨x0,x1,x2,x3,x4,x5,x6,x7,x8,xf,hXl⟩:=HSw2.out.x;obtain⟨z0,z1,z2,z3,z4,z5,z6,z7,z8,zf,hZl⟩:=HSw2.out.z;))
   |(go_at_call 283;(with_reducible refine(HE1.out _ HRw2.out).mono ?_);rintro e w3 ⟨rfl,hr,hk⟩;clear x0 x1 x2 x3 x4 x5 x6 x7 x8 z0 z1 z2 z3 z4 z5 z6 z7 z8 xf zf hXl hZl;have HSw3:Hid (Is R w w3 (w1.heap.size+1) #[.int .i64 b,.int .i64 0,.int .i64 0,.int .u64 0,.int .i64 0,.slice none 0 0,.slice none 0 0,.slice none 0 0,.bool false]):=hid (HSw2.out.step hk);have HRw3:=hid hr;obtain⟨x0,x1,x2,x3,x4,x5,x6,x7,x8,xf,hXl⟩:=HSw3.out.x;obtain⟨z0,z1,z2,z3,z4,z5,z6,z7,z8,zf,hZl⟩:=HSw3.out.z;clear hr hk))
 have hRZ:R<w1.heap.size+1:=by omega
 refine bodyPost_ret (v:=.tuple #[.agg #[.int .i64 b,.int .i64 0,.int .i64 0,.int .u64 0,.int .i64 0,.slice none 0 0,.slice none 0 0,.slice none 0 0,.bool false],.nilIface]) (by simp[results,results270,go_sem,x0,x1,x2,x3,x4,x5,x6,x7,x8,z0,z1,z2,z3,z4,z5,z6,z7,z8,hXl]) rfl ?_
 refine⟨⟨none,0,none,0,none,0⟩,rfl,?_,HRw3.out.set9 hRX,HSw3.out.k.set9 (.inr (zq _))⟩
 exact newN_plain hbI inI0 inI0 inU0
theorem ins_2e(h:Rdr R w A c bs p n)(b:Int)(depth:Nat)(hc:opChk depth n b=0)(hd:depth<=32)(hn:n<=512)(hp:p<bs.length)(hbI:inI b)(hq:bh b (Opx.kd b)=2)(er:Nat×Nat)(hr1_:rdInt (bs.drop (p+1)) (p+1)=.error er):
  Calls prog 270 #[.pointer (some ⟨R,0,none⟩),.int .i64 b,.int .i64 depth] w (InsP R w A c bs (.error er)):=by
 have hRX:=h.lt
 have HOp:=hop h b depth hc hd hn hp
 have HBh:=hid (λ(w:World) (nmv:ByteArray) (tv:Value) (g y:Int) (sv:Bool)=>behind_any b (Opx.kd b) g y nmv tv sv w)
 rw[hq]at HBh
 unfold opC at HOp
 have HE1:=hid (λwx (h:Rdr R wx A c bs (p+1) (n+1))=>number_err h er hr1_)
 clear hr1_
 clear h hc hq
 unfold InsP insC
 dsimp only
 go_enter func270,ntmps270
 go_wp2_with(first
   |(go_at_call 280;((with_reducible refine(HOp.out _).mono ?_);rintro e w1 ⟨At,mt,ct,nmv,yv,sv,rfl,hr1,hk1⟩;have hX1:w.heap.size<w1.heap.size:=zj (by simp) hk1.size;have HR1:=hid hr1;have HK1:=hid hk1;clear hr1 hk1))
   |(go_at_call 260;((with_reducible refine(HBh.out _ _ _ _ _ _).mono ?_);rintro e w2 ⟨rfl,hb2⟩;obtain⟨hsw,hY,yg,hrw⟩:=Is.first hRX HK1.out HR1.out hb2;have HSw2:=hid hsw;have HRw2:=hid hrw;clear hsw hrw hb2;obtain⟨x0,x1,x2,x3,x4,x5,x6,x7,x8,xf,hXl⟩:=HSw2.out.x;obtain⟨z0,z1,z2,z3,z4,z5,z6,z7,z8,zf,hZl⟩:=HSw2.out.z;))
   |(go_at_call 282;(with_reducible refine(HE1.out _ HRw2.out).mono ?_);rintro e w3 ⟨v,rfl,⟨sb,so,rfl,hs1,hs2⟩,hk⟩;clear x0 x1 x2 x3 x4 x5 x6 x7 x8 z0 z1 z2 z3 z4 z5 z6 z7 z8 xf zf hXl hZl;have HSw3:Hid (Is R w w3 (w1.heap.size+1) #[.int .i64 b,.int .i64 0,.int .i64 0,.int .u64 0,.int .i64 0,.slice none 0 0,.slice none 0 0,.slice none 0 0,.bool false]):=hid (HSw2.out.step hk);have hsX:sb≠w.heap.size:=no_spotA HSw3.out.hx rfl hs2;have hsZ:sb≠(w1.heap.size+1):=no_spotA HSw3.out.hz rfl hs2;have HS1:=hid hs1;have HS2:=hid hs2;obtain⟨x0,x1,x2,x3,x4,x5,x6,x7,x8,xf,hXl⟩:=HSw3.out.x;obtain⟨z0,z1,z2,z3,z4,z5,z6,z7,z8,zf,hZl⟩:=HSw3.out.z;clear hs1 hs2 hk))
 have hRZ:R<w1.heap.size+1:=by omega
 refine bodyPost_ret (v:=.tuple #[.agg #[.int .i64 b,.int .i64 0,.int .i64 0,.int .u64 0,.int .i64 0,.slice none 0 0,.slice none 0 0,.slice none 0 0,.bool false],.iface 115 (.pointer (some ⟨sb,so,none⟩))]) (by simp[results,results270,go_sem,x0,x1,x2,x3,x4,x5,x6,x7,x8,z0,z1,z2,z3,z4,z5,z6,z7,z8,hXl]) rfl ?_
 exact⟨_,⟨⟨b,0,0,0,0,[],.nil,.nil,false⟩,⟨none,0,none,0,none,0⟩⟩,rfl,⟨sb,so,rfl,cell_set9 (cell_set_ne HS1.out hsZ) hsX,cell_set9 (cell_set_ne HS2.out hsZ) hsX⟩,(HSw3.out.set 1 _ (by simp)).k.set9 (.inr (zq _))⟩
theorem ins_2k(h:Rdr R w A c bs p n)(b:Int)(depth:Nat)(hc:opChk depth n b=0)(hd:depth<=32)(hn:n<=512)(hp:p<bs.length)(hbI:inI b)(hq:bh b (Opx.kd b)=2)(a:Int)(l':List UInt8)(p':Nat)(hr1_:rdInt (bs.drop (p+1)) (p+1)=.ok (a,l',p')):
  Calls prog 270 #[.pointer (some ⟨R,0,none⟩),.int .i64 b,.int .i64 depth] w (InsP R w A c bs (.ok ((⟨b,a,0,0,0,[],.nil,.nil,false⟩,n+1),l',p'))):=by
 have hRX:=h.lt
 have HOp:=hop h b depth hc hd hn hp
 have HBh:=hid (λ(w:World) (nmv:ByteArray) (tv:Value) (g y:Int) (sv:Bool)=>behind_any b (Opx.kd b) g y nmv tv sv w)
 rw[hq]at HBh
 unfold opC at HOp
 have haI:inI a:=by have:=((num32_iff _).1 (int_got hr1_).1);unfold inI;omega
 have HE1:=hid (λwx (h:Rdr R wx A c bs (p+1) (n+1))=>number_ok h a l' p' hr1_)
 clear hr1_
 clear h hc hq
 unfold InsP insC
 dsimp only
 go_enter func270,ntmps270
 go_wp2_with(first
   |(go_at_call 280;((with_reducible refine(HOp.out _).mono ?_);rintro e w1 ⟨At,mt,ct,nmv,yv,sv,rfl,hr1,hk1⟩;have hX1:w.heap.size<w1.heap.size:=zj (by simp) hk1.size;have HR1:=hid hr1;have HK1:=hid hk1;clear hr1 hk1))
   |(go_at_call 260;((with_reducible refine(HBh.out _ _ _ _ _ _).mono ?_);rintro e w2 ⟨rfl,hb2⟩;obtain⟨hsw,hY,yg,hrw⟩:=Is.first hRX HK1.out HR1.out hb2;have HSw2:=hid hsw;have HRw2:=hid hrw;clear hsw hrw hb2;obtain⟨x0,x1,x2,x3,x4,x5,x6,x7,x8,xf,hXl⟩:=HSw2.out.x;obtain⟨z0,z1,z2,z3,z4,z5,z6,z7,z8,zf,hZl⟩:=HSw2.out.z;))
   |(go_at_call 282;(with_reducible refine(HE1.out _ HRw2.out).mono ?_);rintro e w3 ⟨rfl,hr,hk⟩;clear x0 x1 x2 x3 x4 x5 x6 x7 x8 z0 z1 z2 z3 z4 z5 z6 z7 z8 xf zf hXl hZl;have HSw3:Hid (Is R w w3 (w1.heap.size+1) #[.int .i64 b,.int .i64 0,.int .i64 0,.int .u64 0,.int .i64 0,.slice none 0 0,.slice none 0 0,.slice none 0 0,.bool false]):=hid (HSw2.out.step hk);have HRw3:=hid hr;obtain⟨x0,x1,x2,x3,x4,x5,x6,x7,x8,xf,hXl⟩:=HSw3.out.x;obtain⟨z0,z1,z2,z3,z4,z5,z6,z7,z8,zf,hZl⟩:=HSw3.out.z;clear hr hk))
 have hRZ:R<w1.heap.size+1:=by omega
 refine bodyPost_ret (v:=.tuple #[.agg #[.int .i64 b,.int .i64 a,.int .i64 0,.int .u64 0,.int .i64 0,.slice none 0 0,.slice none 0 0,.slice none 0 0,.bool false],.nilIface]) (by simp[results,results270,go_sem,x0,x1,x2,x3,x4,x5,x6,x7,x8,z0,z1,z2,z3,z4,z5,z6,z7,z8,hXl]) rfl ?_
 refine⟨⟨none,0,none,0,none,0⟩,rfl,?_,(HRw3.out.setOther hRZ 1 _).set9 hRX,(HSw3.out.set 1 _ (by simp)).k.set9 (.inr (zq _))⟩
 exact newN_plain hbI haI inI0 inU0
theorem ins_3e(h:Rdr R w A c bs p n)(b:Int)(depth:Nat)(hc:opChk depth n b=0)(hd:depth<=32)(hn:n<=512)(hp:p<bs.length)(hbI:inI b)(hq:bh b (Opx.kd b)=3)(er:Nat×Nat)(hr1_:rdInt (bs.drop (p+1)) (p+1)=.error er):
  Calls prog 270 #[.pointer (some ⟨R,0,none⟩),.int .i64 b,.int .i64 depth] w (InsP R w A c bs (.error er)):=by
 have hRX:=h.lt
 have HOp:=hop h b depth hc hd hn hp
 have HBh:=hid (λ(w:World) (nmv:ByteArray) (tv:Value) (g y:Int) (sv:Bool)=>behind_any b (Opx.kd b) g y nmv tv sv w)
 rw[hq]at HBh
 unfold opC at HOp
 have HE1:=hid (λwx (h:Rdr R wx A c bs (p+1) (n+1))=>number_err h er hr1_)
 clear hr1_
 clear h hc hq
 unfold InsP insC
 dsimp only
 go_enter func270,ntmps270
 go_wp2_with(first
   |(go_at_call 280;((with_reducible refine(HOp.out _).mono ?_);rintro e w1 ⟨At,mt,ct,nmv,yv,sv,rfl,hr1,hk1⟩;have hX1:w.heap.size<w1.heap.size:=zj (by simp) hk1.size;have HR1:=hid hr1;have HK1:=hid hk1;clear hr1 hk1))
   |(go_at_call 260;((with_reducible refine(HBh.out _ _ _ _ _ _).mono ?_);rintro e w2 ⟨rfl,hb2⟩;obtain⟨hsw,hY,yg,hrw⟩:=Is.first hRX HK1.out HR1.out hb2;have HSw2:=hid hsw;have HRw2:=hid hrw;clear hsw hrw hb2;obtain⟨x0,x1,x2,x3,x4,x5,x6,x7,x8,xf,hXl⟩:=HSw2.out.x;obtain⟨z0,z1,z2,z3,z4,z5,z6,z7,z8,zf,hZl⟩:=HSw2.out.z;))
   |(go_at_call 282;(with_reducible refine(HE1.out _ HRw2.out).mono ?_);rintro e w3 ⟨v,rfl,⟨sb,so,rfl,hs1,hs2⟩,hk⟩;clear x0 x1 x2 x3 x4 x5 x6 x7 x8 z0 z1 z2 z3 z4 z5 z6 z7 z8 xf zf hXl hZl;have HSw3:Hid (Is R w w3 (w1.heap.size+1) #[.int .i64 b,.int .i64 0,.int .i64 0,.int .u64 0,.int .i64 0,.slice none 0 0,.slice none 0 0,.slice none 0 0,.bool false]):=hid (HSw2.out.step hk);have hsX:sb≠w.heap.size:=no_spotA HSw3.out.hx rfl hs2;have hsZ:sb≠(w1.heap.size+1):=no_spotA HSw3.out.hz rfl hs2;have HS1:=hid hs1;have HS2:=hid hs2;obtain⟨x0,x1,x2,x3,x4,x5,x6,x7,x8,xf,hXl⟩:=HSw3.out.x;obtain⟨z0,z1,z2,z3,z4,z5,z6,z7,z8,zf,hZl⟩:=HSw3.out.z;clear hs1 hs2 hk))
 have hRZ:R<w1.heap.size+1:=by omega
 refine bodyPost_ret (v:=.tuple #[.agg #[.int .i64 b,.int .i64 0,.int .i64 0,.int .u64 0,.int .i64 0,.slice none 0 0,.slice none 0 0,.slice none 0 0,.bool false],.iface 115 (.pointer (some ⟨sb,so,none⟩))]) (by simp[results,results270,go_sem,x0,x1,x2,x3,x4,x5,x6,x7,x8,z0,z1,z2,z3,z4,z5,z6,z7,z8,hXl]) rfl ?_
 exact⟨_,⟨⟨b,0,0,0,0,[],.nil,.nil,false⟩,⟨none,0,none,0,none,0⟩⟩,rfl,⟨sb,so,rfl,cell_set9 (cell_set_ne HS1.out hsZ) hsX,cell_set9 (cell_set_ne HS2.out hsZ) hsX⟩,(HSw3.out.set 1 _ (by simp)).k.set9 (.inr (zq _))⟩
theorem ins_3ke(h:Rdr R w A c bs p n)(b:Int)(depth:Nat)(hc:opChk depth n b=0)(hd:depth<=32)(hn:n<=512)(hp:p<bs.length)(hbI:inI b)(hq:bh b (Opx.kd b)=3)(a:Int)(l':List UInt8)(p':Nat)(hr1_:rdInt (bs.drop (p+1)) (p+1)=.ok (a,l',p'))(er:Nat×Nat)(hr2_:rdMust 0 l' p'=.error er):
  Calls prog 270 #[.pointer (some ⟨R,0,none⟩),.int .i64 b,.int .i64 depth] w (InsP R w A c bs (.error er)):=by
 have hRX:=h.lt
 have HOp:=hop h b depth hc hd hn hp
 have HBh:=hid (λ(w:World) (nmv:ByteArray) (tv:Value) (g y:Int) (sv:Bool)=>behind_any b (Opx.kd b) g y nmv tv sv w)
 rw[hq]at HBh
 unfold opC at HOp
 have haI:inI a:=by have:=((num32_iff _).1 (int_got hr1_).1);unfold inI;omega
 obtain⟨hl',-,-⟩:=Adv.dropped (int_got hr1_).2 (show p+1<=bs.length by omega)
 subst hl'
 have HE1:=hid (λwx (h:Rdr R wx A c bs (p+1) (n+1))=>number_ok h a _ p' hr1_)
 have HE2:=hid (λwx (h:Rdr R wx A c bs p' (n+1))=>zero_err h er hr2_)
 clear hr1_ hr2_
 clear h hc hq
 unfold InsP insC
 dsimp only
 go_enter func270,ntmps270
 go_wp2_with(first
   |(go_at_call 280;((with_reducible refine(HOp.out _).mono ?_);rintro e w1 ⟨At,mt,ct,nmv,yv,sv,rfl,hr1,hk1⟩;have hX1:w.heap.size<w1.heap.size:=zj (by simp) hk1.size;have HR1:=hid hr1;have HK1:=hid hk1;clear hr1 hk1))
   |(go_at_call 260;((with_reducible refine(HBh.out _ _ _ _ _ _).mono ?_);rintro e w2 ⟨rfl,hb2⟩;obtain⟨hsw,hY,yg,hrw⟩:=Is.first hRX HK1.out HR1.out hb2;have HSw2:=hid hsw;have HRw2:=hid hrw;clear hsw hrw hb2;obtain⟨x0,x1,x2,x3,x4,x5,x6,x7,x8,xf,hXl⟩:=HSw2.out.x;obtain⟨z0,z1,z2,z3,z4,z5,z6,z7,z8,zf,hZl⟩:=HSw2.out.z;))
   |(go_at_call 282;(with_reducible refine(HE1.out _ HRw2.out).mono ?_);rintro e w3 ⟨rfl,hr,hk⟩;clear x0 x1 x2 x3 x4 x5 x6 x7 x8 z0 z1 z2 z3 z4 z5 z6 z7 z8 xf zf hXl hZl;have HSw3:Hid (Is R w w3 (w1.heap.size+1) #[.int .i64 b,.int .i64 0,.int .i64 0,.int .u64 0,.int .i64 0,.slice none 0 0,.slice none 0 0,.slice none 0 0,.bool false]):=hid (HSw2.out.step hk);have HRw3:=hid hr;obtain⟨x0,x1,x2,x3,x4,x5,x6,x7,x8,xf,hXl⟩:=HSw3.out.x;obtain⟨z0,z1,z2,z3,z4,z5,z6,z7,z8,zf,hZl⟩:=HSw3.out.z;clear hr hk)
   |(go_at_call 283;(with_reducible refine(HE2.out _ (HRw3.out.setOther (show R<w1.heap.size+1 by omega) 1 (.int .i64 a))).mono ?_);rintro e w4 ⟨v,rfl,⟨sb,so,rfl,hs1,hs2⟩,hk⟩;clear x0 x1 x2 x3 x4 x5 x6 x7 x8 z0 z1 z2 z3 z4 z5 z6 z7 z8 xf zf hXl hZl;have HSw4:Hid (Is R w w4 (w1.heap.size+1) #[.int .i64 b,.int .i64 a,.int .i64 0,.int .u64 0,.int .i64 0,.slice none 0 0,.slice none 0 0,.slice none 0 0,.bool false]):=hid ((HSw3.out.set 1 (.int .i64 a) (by simp)).step hk);have hsX:sb≠w.heap.size:=no_spotA HSw4.out.hx rfl hs2;have hsZ:sb≠(w1.heap.size+1):=no_spotA HSw4.out.hz rfl hs2;have HS1:=hid hs1;have HS2:=hid hs2;obtain⟨x0,x1,x2,x3,x4,x5,x6,x7,x8,xf,hXl⟩:=HSw4.out.x;obtain⟨z0,z1,z2,z3,z4,z5,z6,z7,z8,zf,hZl⟩:=HSw4.out.z;clear hs1 hs2 hk))
 have hRZ:R<w1.heap.size+1:=by omega
 refine bodyPost_ret (v:=.tuple #[.agg #[.int .i64 b,.int .i64 a,.int .i64 0,.int .u64 0,.int .i64 0,.slice none 0 0,.slice none 0 0,.slice none 0 0,.bool false],.iface 115 (.pointer (some ⟨sb,so,none⟩))]) (by simp[results,results270,go_sem,x0,x1,x2,x3,x4,x5,x6,x7,x8,z0,z1,z2,z3,z4,z5,z6,z7,z8,hXl]) rfl ?_
 exact⟨_,⟨⟨b,a,0,0,0,[],.nil,.nil,false⟩,⟨none,0,none,0,none,0⟩⟩,rfl,⟨sb,so,rfl,cell_set9 HS1.out hsX,cell_set9 HS2.out hsX⟩,HSw4.out.k.set9 (.inr (zq _))⟩
theorem ins_3kk(h:Rdr R w A c bs p n)(b:Int)(depth:Nat)(hc:opChk depth n b=0)(hd:depth<=32)(hn:n<=512)(hp:p<bs.length)(hbI:inI b)(hq:bh b (Opx.kd b)=3)(a:Int)(l':List UInt8)(p':Nat)(hr1_:rdInt (bs.drop (p+1)) (p+1)=.ok (a,l',p'))(u:Unit)(l2:List UInt8)(p2:Nat)(hr2_:rdMust 0 l' p'=.ok (u,l2,p2)):
  Calls prog 270 #[.pointer (some ⟨R,0,none⟩),.int .i64 b,.int .i64 depth] w (InsP R w A c bs (.ok ((⟨b,a,0,0,0,[],.nil,.nil,false⟩,n+1),l2,p2))):=by
 have hRX:=h.lt
 have HOp:=hop h b depth hc hd hn hp
 have HBh:=hid (λ(w:World) (nmv:ByteArray) (tv:Value) (g y:Int) (sv:Bool)=>behind_any b (Opx.kd b) g y nmv tv sv w)
 rw[hq]at HBh
 unfold opC at HOp
 have haI:inI a:=by have:=((num32_iff _).1 (int_got hr1_).1);unfold inI;omega
 obtain⟨hl',-,-⟩:=Adv.dropped (int_got hr1_).2 (show p+1<=bs.length by omega)
 subst hl'
 have HE1:=hid (λwx (h:Rdr R wx A c bs (p+1) (n+1))=>number_ok h a _ p' hr1_)
 have HE2:=hid (λwx (h:Rdr R wx A c bs p' (n+1))=>zero_ok h u l2 p2 hr2_)
 clear hr1_ hr2_
 clear h hc hq
 unfold InsP insC
 dsimp only
 go_enter func270,ntmps270
 go_wp2_with(first
   |(go_at_call 280;((with_reducible refine(HOp.out _).mono ?_);rintro e w1 ⟨At,mt,ct,nmv,yv,sv,rfl,hr1,hk1⟩;have hX1:w.heap.size<w1.heap.size:=zj (by simp) hk1.size;have HR1:=hid hr1;have HK1:=hid hk1;clear hr1 hk1))
   |(go_at_call 260;((with_reducible refine(HBh.out _ _ _ _ _ _).mono ?_);rintro e w2 ⟨rfl,hb2⟩;obtain⟨hsw,hY,yg,hrw⟩:=Is.first hRX HK1.out HR1.out hb2;have HSw2:=hid hsw;have HRw2:=hid hrw;clear hsw hrw hb2;obtain⟨x0,x1,x2,x3,x4,x5,x6,x7,x8,xf,hXl⟩:=HSw2.out.x;obtain⟨z0,z1,z2,z3,z4,z5,z6,z7,z8,zf,hZl⟩:=HSw2.out.z;))
   |(go_at_call 282;(with_reducible refine(HE1.out _ HRw2.out).mono ?_);rintro e w3 ⟨rfl,hr,hk⟩;clear x0 x1 x2 x3 x4 x5 x6 x7 x8 z0 z1 z2 z3 z4 z5 z6 z7 z8 xf zf hXl hZl;have HSw3:Hid (Is R w w3 (w1.heap.size+1) #[.int .i64 b,.int .i64 0,.int .i64 0,.int .u64 0,.int .i64 0,.slice none 0 0,.slice none 0 0,.slice none 0 0,.bool false]):=hid (HSw2.out.step hk);have HRw3:=hid hr;obtain⟨x0,x1,x2,x3,x4,x5,x6,x7,x8,xf,hXl⟩:=HSw3.out.x;obtain⟨z0,z1,z2,z3,z4,z5,z6,z7,z8,zf,hZl⟩:=HSw3.out.z;clear hr hk)
   |(go_at_call 283;(with_reducible refine(HE2.out _ (HRw3.out.setOther (show R<w1.heap.size+1 by omega) 1 (.int .i64 a))).mono ?_);rintro e w4 ⟨rfl,hr,hk⟩;clear x0 x1 x2 x3 x4 x5 x6 x7 x8 z0 z1 z2 z3 z4 z5 z6 z7 z8 xf zf hXl hZl;have HSw4:Hid (Is R w w4 (w1.heap.size+1) #[.int .i64 b,.int .i64 a,.int .i64 0,.int .u64 0,.int .i64 0,.slice none 0 0,.slice none 0 0,.slice none 0 0,.bool false]):=hid ((HSw3.out.set 1 (.int .i64 a) (by simp)).step hk);have HRw4:=hid hr;obtain⟨x0,x1,x2,x3,x4,x5,x6,x7,x8,xf,hXl⟩:=HSw4.out.x;obtain⟨z0,z1,z2,z3,z4,z5,z6,z7,z8,zf,hZl⟩:=HSw4.out.z;clear hr hk))
 have hRZ:R<w1.heap.size+1:=by omega
 refine bodyPost_ret (v:=.tuple #[.agg #[.int .i64 b,.int .i64 a,.int .i64 0,.int .u64 0,.int .i64 0,.slice none 0 0,.slice none 0 0,.slice none 0 0,.bool false],.nilIface]) (by simp[results,results270,go_sem,x0,x1,x2,x3,x4,x5,x6,x7,x8,z0,z1,z2,z3,z4,z5,z6,z7,z8,hXl]) rfl ?_
 refine⟨⟨none,0,none,0,none,0⟩,rfl,?_,HRw4.out.set9 hRX,HSw4.out.k.set9 (.inr (zq _))⟩
 exact newN_plain hbI haI inI0 inU0
theorem ins_4e(h:Rdr R w A c bs p n)(b:Int)(depth:Nat)(hc:opChk depth n b=0)(hd:depth<=32)(hn:n<=512)(hp:p<bs.length)(hbI:inI b)(hq:bh b (Opx.kd b)=4)(er:Nat×Nat)(hr1_:rdInt (bs.drop (p+1)) (p+1)=.error er):
  Calls prog 270 #[.pointer (some ⟨R,0,none⟩),.int .i64 b,.int .i64 depth] w (InsP R w A c bs (.error er)):=by
 have hRX:=h.lt
 have HOp:=hop h b depth hc hd hn hp
 have HBh:=hid (λ(w:World) (nmv:ByteArray) (tv:Value) (g y:Int) (sv:Bool)=>behind_any b (Opx.kd b) g y nmv tv sv w)
 rw[hq]at HBh
 unfold opC at HOp
 have HE1:=hid (λwx (h:Rdr R wx A c bs (p+1) (n+1))=>number_err h er hr1_)
 clear hr1_
 clear h hc hq
 unfold InsP insC
 dsimp only
 go_enter func270,ntmps270
 go_wp2_with(first
   |(go_at_call 280;((with_reducible refine(HOp.out _).mono ?_);rintro e w1 ⟨At,mt,ct,nmv,yv,sv,rfl,hr1,hk1⟩;have hX1:w.heap.size<w1.heap.size:=zj (by simp) hk1.size;have HR1:=hid hr1;have HK1:=hid hk1;clear hr1 hk1))
   |(go_at_call 260;((with_reducible refine(HBh.out _ _ _ _ _ _).mono ?_);rintro e w2 ⟨rfl,hb2⟩;obtain⟨hsw,hY,yg,hrw⟩:=Is.first hRX HK1.out HR1.out hb2;have HSw2:=hid hsw;have HRw2:=hid hrw;clear hsw hrw hb2;obtain⟨x0,x1,x2,x3,x4,x5,x6,x7,x8,xf,hXl⟩:=HSw2.out.x;obtain⟨z0,z1,z2,z3,z4,z5,z6,z7,z8,zf,hZl⟩:=HSw2.out.z;))
   |(go_at_call 282;(with_reducible refine(HE1.out _ HRw2.out).mono ?_);rintro e w3 ⟨v,rfl,⟨sb,so,rfl,hs1,hs2⟩,hk⟩;clear x0 x1 x2 x3 x4 x5 x6 x7 x8 z0 z1 z2 z3 z4 z5 z6 z7 z8 xf zf hXl hZl;have HSw3:Hid (Is R w w3 (w1.heap.size+1) #[.int .i64 b,.int .i64 0,.int .i64 0,.int .u64 0,.int .i64 0,.slice none 0 0,.slice none 0 0,.slice none 0 0,.bool false]):=hid (HSw2.out.step hk);have hsX:sb≠w.heap.size:=no_spotA HSw3.out.hx rfl hs2;have hsZ:sb≠(w1.heap.size+1):=no_spotA HSw3.out.hz rfl hs2;have HS1:=hid hs1;have HS2:=hid hs2;obtain⟨x0,x1,x2,x3,x4,x5,x6,x7,x8,xf,hXl⟩:=HSw3.out.x;obtain⟨z0,z1,z2,z3,z4,z5,z6,z7,z8,zf,hZl⟩:=HSw3.out.z;clear hs1 hs2 hk))
 have hRZ:R<w1.heap.size+1:=by omega
 refine bodyPost_ret (v:=.tuple #[.agg #[.int .i64 b,.int .i64 0,.int .i64 0,.int .u64 0,.int .i64 0,.slice none 0 0,.slice none 0 0,.slice none 0 0,.bool false],.iface 115 (.pointer (some ⟨sb,so,none⟩))]) (by simp[results,results270,go_sem,x0,x1,x2,x3,x4,x5,x6,x7,x8,z0,z1,z2,z3,z4,z5,z6,z7,z8,hXl]) rfl ?_
 exact⟨_,⟨⟨b,0,0,0,0,[],.nil,.nil,false⟩,⟨none,0,none,0,none,0⟩⟩,rfl,⟨sb,so,rfl,cell_set9 (cell_set_ne HS1.out hsZ) hsX,cell_set9 (cell_set_ne HS2.out hsZ) hsX⟩,(HSw3.out.set 1 _ (by simp)).k.set9 (.inr (zq _))⟩
theorem ins_4ke(h:Rdr R w A c bs p n)(b:Int)(depth:Nat)(hc:opChk depth n b=0)(hd:depth<=32)(hn:n<=512)(hp:p<bs.length)(hbI:inI b)(hq:bh b (Opx.kd b)=4)(a:Int)(l':List UInt8)(p':Nat)(hr1_:rdInt (bs.drop (p+1)) (p+1)=.ok (a,l',p'))(er:Nat×Nat)(hr2_:rdInt l' p'=.error er):
  Calls prog 270 #[.pointer (some ⟨R,0,none⟩),.int .i64 b,.int .i64 depth] w (InsP R w A c bs (.error er)):=by
 have hRX:=h.lt
 have HOp:=hop h b depth hc hd hn hp
 have HBh:=hid (λ(w:World) (nmv:ByteArray) (tv:Value) (g y:Int) (sv:Bool)=>behind_any b (Opx.kd b) g y nmv tv sv w)
 rw[hq]at HBh
 unfold opC at HOp
 have haI:inI a:=by have:=((num32_iff _).1 (int_got hr1_).1);unfold inI;omega
 obtain⟨hl',-,-⟩:=Adv.dropped (int_got hr1_).2 (show p+1<=bs.length by omega)
 subst hl'
 have HE1:=hid (λwx (h:Rdr R wx A c bs (p+1) (n+1))=>number_ok h a _ p' hr1_)
 have HE2:=hid (λwx (h:Rdr R wx A c bs (p') (n+1))=>number_err h er hr2_)
 clear hr1_ hr2_
 clear h hc hq
 unfold InsP insC
 dsimp only
 go_enter func270,ntmps270
 go_wp2_with(first
   |(go_at_call 280;((with_reducible refine(HOp.out _).mono ?_);rintro e w1 ⟨At,mt,ct,nmv,yv,sv,rfl,hr1,hk1⟩;have hX1:w.heap.size<w1.heap.size:=zj (by simp) hk1.size;have HR1:=hid hr1;have HK1:=hid hk1;clear hr1 hk1))
   |(go_at_call 260;((with_reducible refine(HBh.out _ _ _ _ _ _).mono ?_);rintro e w2 ⟨rfl,hb2⟩;obtain⟨hsw,hY,yg,hrw⟩:=Is.first hRX HK1.out HR1.out hb2;have HSw2:=hid hsw;have HRw2:=hid hrw;clear hsw hrw hb2;obtain⟨x0,x1,x2,x3,x4,x5,x6,x7,x8,xf,hXl⟩:=HSw2.out.x;obtain⟨z0,z1,z2,z3,z4,z5,z6,z7,z8,zf,hZl⟩:=HSw2.out.z;))
   |(go_at_call 282;(with_reducible refine(HE1.out _ HRw2.out).mono ?_);rintro e w3 ⟨rfl,hr,hk⟩;clear x0 x1 x2 x3 x4 x5 x6 x7 x8 z0 z1 z2 z3 z4 z5 z6 z7 z8 xf zf hXl hZl;have HSw3:Hid (Is R w w3 (w1.heap.size+1) #[.int .i64 b,.int .i64 0,.int .i64 0,.int .u64 0,.int .i64 0,.slice none 0 0,.slice none 0 0,.slice none 0 0,.bool false]):=hid (HSw2.out.step hk);have HRw3:=hid hr;obtain⟨x0,x1,x2,x3,x4,x5,x6,x7,x8,xf,hXl⟩:=HSw3.out.x;obtain⟨z0,z1,z2,z3,z4,z5,z6,z7,z8,zf,hZl⟩:=HSw3.out.z;clear hr hk)
   |(go_at_call 282;(with_reducible refine(HE2.out _ (HRw3.out.setOther (show R<w1.heap.size+1 by omega) 1 (.int .i64 a))).mono ?_);rintro e w4 ⟨v,rfl,⟨sb,so,rfl,hs1,hs2⟩,hk⟩;clear x0 x1 x2 x3 x4 x5 x6 x7 x8 z0 z1 z2 z3 z4 z5 z6 z7 z8 xf zf hXl hZl;have HSw4:Hid (Is R w w4 (w1.heap.size+1) #[.int .i64 b,.int .i64 a,.int .i64 0,.int .u64 0,.int .i64 0,.slice none 0 0,.slice none 0 0,.slice none 0 0,.bool false]):=hid ((HSw3.out.set 1 (.int .i64 a) (by simp)).step hk);have hsX:sb≠w.heap.size:=no_spotA HSw4.out.hx rfl hs2;have hsZ:sb≠(w1.heap.size+1):=no_spotA HSw4.out.hz rfl hs2;have HS1:=hid hs1;have HS2:=hid hs2;obtain⟨x0,x1,x2,x3,x4,x5,x6,x7,x8,xf,hXl⟩:=HSw4.out.x;obtain⟨z0,z1,z2,z3,z4,z5,z6,z7,z8,zf,hZl⟩:=HSw4.out.z;clear hs1 hs2 hk))
 have hRZ:R<w1.heap.size+1:=by omega
 refine bodyPost_ret (v:=.tuple #[.agg #[.int .i64 b,.int .i64 a,.int .i64 0,.int .u64 0,.int .i64 0,.slice none 0 0,.slice none 0 0,.slice none 0 0,.bool false],.iface 115 (.pointer (some ⟨sb,so,none⟩))]) (by simp[results,results270,go_sem,x0,x1,x2,x3,x4,x5,x6,x7,x8,z0,z1,z2,z3,z4,z5,z6,z7,z8,hXl]) rfl ?_
 exact⟨_,⟨⟨b,a,0,0,0,[],.nil,.nil,false⟩,⟨none,0,none,0,none,0⟩⟩,rfl,⟨sb,so,rfl,cell_set9 (cell_set_ne HS1.out hsZ) hsX,cell_set9 (cell_set_ne HS2.out hsZ) hsX⟩,(HSw4.out.set 2 _ (by simp)).k.set9 (.inr (zq _))⟩
theorem ins_4kk(h:Rdr R w A c bs p n)(b:Int)(depth:Nat)(hc:opChk depth n b=0)(hd:depth<=32)(hn:n<=512)(hp:p<bs.length)(hbI:inI b)(hq:bh b (Opx.kd b)=4)(a:Int)(l':List UInt8)(p':Nat)(hr1_:rdInt (bs.drop (p+1)) (p+1)=.ok (a,l',p'))(a2:Int)(l2:List UInt8)(p2:Nat)(hr2_:rdInt l' p'=.ok (a2,l2,p2)):
  Calls prog 270 #[.pointer (some ⟨R,0,none⟩),.int .i64 b,.int .i64 depth] w (InsP R w A c bs (.ok ((⟨b,a,a2,0,0,[],.nil,.nil,false⟩,n+1),l2,p2))):=by
 have hRX:=h.lt
 have HOp:=hop h b depth hc hd hn hp
 have HBh:=hid (λ(w:World) (nmv:ByteArray) (tv:Value) (g y:Int) (sv:Bool)=>behind_any b (Opx.kd b) g y nmv tv sv w)
 rw[hq]at HBh
 unfold opC at HOp
 have haI:inI a:=by have:=((num32_iff _).1 (int_got hr1_).1);unfold inI;omega
 have ha2I:inI a2:=by have:=((num32_iff _).1 (int_got hr2_).1);unfold inI;omega
 obtain⟨hl',-,-⟩:=Adv.dropped (int_got hr1_).2 (show p+1<=bs.length by omega)
 subst hl'
 have HE1:=hid (λwx (h:Rdr R wx A c bs (p+1) (n+1))=>number_ok h a _ p' hr1_)
 have HE2:=hid (λwx (h:Rdr R wx A c bs (p') (n+1))=>number_ok h a2 l2 p2 hr2_)
 clear hr1_ hr2_
 clear h hc hq
 unfold InsP insC
 dsimp only
 go_enter func270,ntmps270
 go_wp2_with(first
   |(go_at_call 280;((with_reducible refine(HOp.out _).mono ?_);rintro e w1 ⟨At,mt,ct,nmv,yv,sv,rfl,hr1,hk1⟩;have hX1:w.heap.size<w1.heap.size:=zj (by simp) hk1.size;have HR1:=hid hr1;have HK1:=hid hk1;clear hr1 hk1))
   |(go_at_call 260;((with_reducible refine(HBh.out _ _ _ _ _ _).mono ?_);rintro e w2 ⟨rfl,hb2⟩;obtain⟨hsw,hY,yg,hrw⟩:=Is.first hRX HK1.out HR1.out hb2;have HSw2:=hid hsw;have HRw2:=hid hrw;clear hsw hrw hb2;obtain⟨x0,x1,x2,x3,x4,x5,x6,x7,x8,xf,hXl⟩:=HSw2.out.x;obtain⟨z0,z1,z2,z3,z4,z5,z6,z7,z8,zf,hZl⟩:=HSw2.out.z;))
   |(go_at_call 282;(with_reducible refine(HE1.out _ HRw2.out).mono ?_);rintro e w3 ⟨rfl,hr,hk⟩;clear x0 x1 x2 x3 x4 x5 x6 x7 x8 z0 z1 z2 z3 z4 z5 z6 z7 z8 xf zf hXl hZl;have HSw3:Hid (Is R w w3 (w1.heap.size+1) #[.int .i64 b,.int .i64 0,.int .i64 0,.int .u64 0,.int .i64 0,.slice none 0 0,.slice none 0 0,.slice none 0 0,.bool false]):=hid (HSw2.out.step hk);have HRw3:=hid hr;obtain⟨x0,x1,x2,x3,x4,x5,x6,x7,x8,xf,hXl⟩:=HSw3.out.x;obtain⟨z0,z1,z2,z3,z4,z5,z6,z7,z8,zf,hZl⟩:=HSw3.out.z;clear hr hk)
   |(go_at_call 282;(with_reducible refine(HE2.out _ (HRw3.out.setOther (show R<w1.heap.size+1 by omega) 1 (.int .i64 a))).mono ?_);rintro e w4 ⟨rfl,hr,hk⟩;clear x0 x1 x2 x3 x4 x5 x6 x7 x8 z0 z1 z2 z3 z4 z5 z6 z7 z8 xf zf hXl hZl;have HSw4:Hid (Is R w w4 (w1.heap.size+1) #[.int .i64 b,.int .i64 a,.int .i64 0,.int .u64 0,.int .i64 0,.slice none 0 0,.slice none 0 0,.slice none 0 0,.bool false]):=hid ((HSw3.out.set 1 (.int .i64 a) (by simp)).step hk);have HRw4:=hid hr;obtain⟨x0,x1,x2,x3,x4,x5,x6,x7,x8,xf,hXl⟩:=HSw4.out.x;obtain⟨z0,z1,z2,z3,z4,z5,z6,z7,z8,zf,hZl⟩:=HSw4.out.z;clear hr hk))
 have hRZ:R<w1.heap.size+1:=by omega
 refine bodyPost_ret (v:=.tuple #[.agg #[.int .i64 b,.int .i64 a,.int .i64 a2,.int .u64 0,.int .i64 0,.slice none 0 0,.slice none 0 0,.slice none 0 0,.bool false],.nilIface]) (by simp[results,results270,go_sem,x0,x1,x2,x3,x4,x5,x6,x7,x8,z0,z1,z2,z3,z4,z5,z6,z7,z8,hXl]) rfl ?_
 refine⟨⟨none,0,none,0,none,0⟩,rfl,?_,(HRw4.out.setOther hRZ 2 _).set9 hRX,(HSw4.out.set 2 _ (by simp)).k.set9 (.inr (zq _))⟩
 exact newN_plain hbI haI ha2I inU0
theorem ins_7e(h:Rdr R w A c bs p n)(b:Int)(depth:Nat)(hc:opChk depth n b=0)(hd:depth<=32)(hn:n<=512)(hp:p<bs.length)(hbI:inI b)(hq:bh b (Opx.kd b)=7)(bits:Nat)(hbt:(Opx.gv b=1/\bits=32)\/(Opx.gv b=2/\bits=64))(er:Nat×Nat)(hr1_:rdSig bits (bs.drop (p+1)) (p+1)=.error er):
  Calls prog 270 #[.pointer (some ⟨R,0,none⟩),.int .i64 b,.int .i64 depth] w (InsP R w A c bs (.error er)):=by
 have hRX:=h.lt
 have HOp:=hop h b depth hc hd hn hp
 have HBh:=hid (λ(w:World) (nmv:ByteArray) (tv:Value) (g y:Int) (sv:Bool)=>behind_any b (Opx.kd b) g y nmv tv sv w)
 rw[hq]at HBh
 unfold opC at HOp
 have HE1:=hid (λwx (h:Rdr R wx A c bs (p+1) (n+1))=>constant_err h (Opx.gv b) bits er hbt hr1_)
 clear hr1_ hbt
 clear h hc hq
 unfold InsP insC
 dsimp only
 go_enter func270,ntmps270
 go_wp2_with(first
   |(go_at_call 280;((with_reducible refine(HOp.out _).mono ?_);rintro e w1 ⟨At,mt,ct,nmv,yv,sv,rfl,hr1,hk1⟩;have hX1:w.heap.size<w1.heap.size:=zj (by simp) hk1.size;have HR1:=hid hr1;have HK1:=hid hk1;clear hr1 hk1))
   |(go_at_call 260;((with_reducible refine(HBh.out _ _ _ _ _ _).mono ?_);rintro e w2 ⟨rfl,hb2⟩;obtain⟨hsw,hY,yg,hrw⟩:=Is.first hRX HK1.out HR1.out hb2;have HSw2:=hid hsw;have HRw2:=hid hrw;clear hsw hrw hb2;obtain⟨x0,x1,x2,x3,x4,x5,x6,x7,x8,xf,hXl⟩:=HSw2.out.x;obtain⟨z0,z1,z2,z3,z4,z5,z6,z7,z8,zf,hZl⟩:=HSw2.out.z;))
   |(go_at_call 285;(with_reducible refine(HE1.out _ HRw2.out).mono ?_);rintro e w3 ⟨v,rfl,⟨sb,so,rfl,hs1,hs2⟩,hk⟩;clear x0 x1 x2 x3 x4 x5 x6 x7 x8 z0 z1 z2 z3 z4 z5 z6 z7 z8 xf zf hXl hZl;have HSw3:Hid (Is R w w3 (w1.heap.size+1) #[.int .i64 b,.int .i64 0,.int .i64 0,.int .u64 0,.int .i64 0,.slice none 0 0,.slice none 0 0,.slice none 0 0,.bool false]):=hid (HSw2.out.step hk);have hsX:sb≠w.heap.size:=no_spotA HSw3.out.hx rfl hs2;have hsZ:sb≠(w1.heap.size+1):=no_spotA HSw3.out.hz rfl hs2;have HS1:=hid hs1;have HS2:=hid hs2;obtain⟨x0,x1,x2,x3,x4,x5,x6,x7,x8,xf,hXl⟩:=HSw3.out.x;obtain⟨z0,z1,z2,z3,z4,z5,z6,z7,z8,zf,hZl⟩:=HSw3.out.z;clear hs1 hs2 hk))
 have hRZ:R<w1.heap.size+1:=by omega
 refine bodyPost_ret (v:=.tuple #[.agg #[.int .i64 b,.int .i64 0,.int .i64 0,.int .u64 0,.int .i64 0,.slice none 0 0,.slice none 0 0,.slice none 0 0,.bool false],.iface 115 (.pointer (some ⟨sb,so,none⟩))]) (by simp[results,results270,go_sem,x0,x1,x2,x3,x4,x5,x6,x7,x8,z0,z1,z2,z3,z4,z5,z6,z7,z8,hXl]) rfl ?_
 exact⟨_,⟨⟨b,0,0,0,0,[],.nil,.nil,false⟩,⟨none,0,none,0,none,0⟩⟩,rfl,⟨sb,so,rfl,cell_set9 (cell_set_ne HS1.out hsZ) hsX,cell_set9 (cell_set_ne HS2.out hsZ) hsX⟩,(HSw3.out.set 3 _ (by simp)).k.set9 (.inr (zq _))⟩
theorem ins_7k(h:Rdr R w A c bs p n)(b:Int)(depth:Nat)(hc:opChk depth n b=0)(hd:depth<=32)(hn:n<=512)(hp:p<bs.length)(hbI:inI b)(hq:bh b (Opx.kd b)=7)(bits:Nat)(hbt:(Opx.gv b=1/\bits=32)\/(Opx.gv b=2/\bits=64))(z:Int)(l':List UInt8)(p':Nat)(hr1_:rdSig bits (bs.drop (p+1)) (p+1)=.ok (z,l',p')):
  Calls prog 270 #[.pointer (some ⟨R,0,none⟩),.int .i64 b,.int .i64 depth] w (InsP R w A c bs (.ok ((⟨b,0,0,z%(2^bits:Int),0,[],.nil,.nil,false⟩,n+1),l',p'))):=by
 have hRX:=h.lt
 have HOp:=hop h b depth hc hd hn hp
 have HBh:=hid (λ(w:World) (nmv:ByteArray) (tv:Value) (g y:Int) (sv:Bool)=>behind_any b (Opx.kd b) g y nmv tv sv w)
 rw[hq]at HBh
 unfold opC at HOp
 have hvI:inU (z%(2^bits:Int)):=by
  rcases hbt with⟨-,rfl⟩|⟨-,rfl⟩
  ·have:=(sig32_got hr1_).1;unfold inU;show 0<=z%4294967296/\z%4294967296<=_;omega
  ·have:=(sig64_got hr1_).1;unfold inU;show 0<=z%18446744073709551616/\z%18446744073709551616<=_;omega
 have HE1:=hid (λwx (h:Rdr R wx A c bs (p+1) (n+1))=>constant_ok h (Opx.gv b) bits z l' p' hbt hr1_)
 obtain⟨vv,hvv⟩:∃vv,vv=z%(2^bits:Int):=⟨_,rfl⟩
 rw[<-hvv]at HE1 hvI⊢
 clear hr1_ hbt hvv
 clear h hc hq
 unfold InsP insC
 dsimp only
 go_enter func270,ntmps270
 go_wp2_with(first
   |(go_at_call 280;((with_reducible refine(HOp.out _).mono ?_);rintro e w1 ⟨At,mt,ct,nmv,yv,sv,rfl,hr1,hk1⟩;have hX1:w.heap.size<w1.heap.size:=zj (by simp) hk1.size;have HR1:=hid hr1;have HK1:=hid hk1;clear hr1 hk1))
   |(go_at_call 260;((with_reducible refine(HBh.out _ _ _ _ _ _).mono ?_);rintro e w2 ⟨rfl,hb2⟩;obtain⟨hsw,hY,yg,hrw⟩:=Is.first hRX HK1.out HR1.out hb2;have HSw2:=hid hsw;have HRw2:=hid hrw;clear hsw hrw hb2;obtain⟨x0,x1,x2,x3,x4,x5,x6,x7,x8,xf,hXl⟩:=HSw2.out.x;obtain⟨z0,z1,z2,z3,z4,z5,z6,z7,z8,zf,hZl⟩:=HSw2.out.z;))
   |(go_at_call 285;(with_reducible refine(HE1.out _ HRw2.out).mono ?_);rintro e w3 ⟨rfl,hr,hk⟩;clear x0 x1 x2 x3 x4 x5 x6 x7 x8 z0 z1 z2 z3 z4 z5 z6 z7 z8 xf zf hXl hZl;have HSw3:Hid (Is R w w3 (w1.heap.size+1) #[.int .i64 b,.int .i64 0,.int .i64 0,.int .u64 0,.int .i64 0,.slice none 0 0,.slice none 0 0,.slice none 0 0,.bool false]):=hid (HSw2.out.step hk);have HRw3:=hid hr;obtain⟨x0,x1,x2,x3,x4,x5,x6,x7,x8,xf,hXl⟩:=HSw3.out.x;obtain⟨z0,z1,z2,z3,z4,z5,z6,z7,z8,zf,hZl⟩:=HSw3.out.z;clear hr hk))
 have hRZ:R<w1.heap.size+1:=by omega
 refine bodyPost_ret (v:=.tuple #[.agg #[.int .i64 b,.int .i64 0,.int .i64 0,.int .u64 vv,.int .i64 0,.slice none 0 0,.slice none 0 0,.slice none 0 0,.bool false],.nilIface]) (by simp[results,results270,go_sem,x0,x1,x2,x3,x4,x5,x6,x7,x8,z0,z1,z2,z3,z4,z5,z6,z7,z8,hXl]) rfl ?_
 refine⟨⟨none,0,none,0,none,0⟩,rfl,?_,(HRw3.out.setOther hRZ 3 _).set9 hRX,(HSw3.out.set 3 _ (by simp)).k.set9 (.inr (zq _))⟩
 exact newN_plain hbI inI0 inI0 hvI
end
end Go.Proofs.YteoijlfipmaoeaaGreatDoor
