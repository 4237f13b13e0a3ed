import Derived.Test.YteoijlfipmaoeaaGreatDoorPExprGg
set_option linter.unusedVariables false
set_option linter.unusedSimpArgs false
set_option maxRecDepth 100000
set_option maxHeartbeats 16000000
namespace Go.Proofs.YteoijlfipmaoeaaGreatDoor
open Lib (hid)
open Go.RowKit Trx
open Go.Proofs.Tryz
section
variable{R:Nat}{w:World}{A:Option Addr}{c:Nat}{bs:List UInt8}{p n:Nat}
theorem Is.blk{R Z:Nat}{w U W:World}{C:Array Value}(S:Is R w U Z C)(hk:Kx (Two R Z) U W):(W.cell? ⟨w.heap.size,0,none⟩=some (.int .i64 0)/\W.cell? ⟨w.heap.size,1,none⟩=some (.int .i64 0)/\W.cell? ⟨w.heap.size,2,none⟩=some (.int .i64 0)/\W.cell? ⟨w.heap.size,3,none⟩=some (.int .u64 0)/\W.cell? ⟨w.heap.size,4,none⟩=some (.int .i64 0)/\W.cell? ⟨w.heap.size,5,none⟩=some (.slice none 0 0)/\W.cell? ⟨w.heap.size,6,none⟩=some (.slice none 0 0)/\W.cell? ⟨w.heap.size,7,none⟩=some (.slice none 0 0)/\W.cell? ⟨w.heap.size,8,none⟩=some (.bool false)/\(∀i,W.frozen? ⟨w.heap.size,i,none⟩=false)/\w.heap.size<W.heap.size)/\(∀i,W.cell? ⟨w.heap.size,i,none⟩=(insZ 0)[i]?)/\Kx (Only R) w W:=by
 have hr:=S.rx
 have hxz:=S.xz
 have hx:∀i,W.cell? ⟨w.heap.size,i,none⟩=(insZ 0)[i]?:=λi=>(zm (a:=⟨w.heap.size,i,none⟩) (hk.block _ S.lx (by simp;omega))).trans (S.hx i)
 exact⟨⟨hx 0,hx 1,hx 2,hx 3,hx 4,hx 5,hx 6,hx 7,hx 8,λi=>(hk.frozen S.lx (by simp;omega)).trans (S.fx i),zj S.lx hk.size⟩,hx,S.k.trans' hk (λbb hb=>by rcases hb with hb|hb;exact .inl hb;exact .inr (by omega))⟩
theorem zs9{Z:Nat}{W:World}{v0 v1 v2 v3 v4 v5 v6 v7 v8:Value}(h:∀i,W.cell? ⟨Z,i,none⟩=(#[v0,v1,v2,v3,v4,v5,v6,v7,v8]:Array Value)[i]?):W.cell? ⟨Z,0,none⟩=some v0/\W.cell? ⟨Z,1,none⟩=some v1/\W.cell? ⟨Z,2,none⟩=some v2/\W.cell? ⟨Z,3,none⟩=some v3/\W.cell? ⟨Z,4,none⟩=some v4/\W.cell? ⟨Z,5,none⟩=some v5/\W.cell? ⟨Z,6,none⟩=some v6/\W.cell? ⟨Z,7,none⟩=some v7/\W.cell? ⟨Z,8,none⟩=some v8:=⟨h 0,h 1,h 2,h 3,h 4,h 5,h 6,h 7,h 8⟩
theorem newN_lab{S:Nat->Prop}{w:World}{B:Nat}{b:Int}{L:List Int}{A5:Option Addr}{c5:Nat}(hb:inI b)(hL:∀z∈L,inI z)(l5:L.length<=c5)(m5:c5<=maxLen)(hs:NewS S w B A5 (n64s L)):NewN S w B ⟨⟨b,0,0,0,0,L,.nil,.nil,false⟩,⟨A5,c5,none,0,none,0⟩⟩:=λw' ha=>
 ⟨⟨hb,inI0,inI0,inU0,inI0,hL,l5,m5,hs w' ha,zq _,qw _,zq _,qw _⟩,RdS.nil_,RdS.nil_⟩
theorem lab_got{l l':List UInt8}{p p':Nat}{L:List Int}(h:rdLab l p=.ok (L,l',p')):(∀z∈L,inI z):=by
 unfold rdLab at h
 rcases hr:rdInt l p with e|⟨m,l1,p1⟩
 ·rw[hr]at h;cases h
 ·
  rw[hr]at h
  simp only at h
  split at h
  ·cases h
  ·
   obtain⟨-,h2,-⟩:=tab_got _ h
   intro z hz
   have:=(num32_iff _).1 (List.all_eq_true.1 h2 z hz)
   unfold inI;omega
theorem ins_5e(h:Rdr R w A c bs p n)(b:Int)(depth:Nat)(hc:opChk depth n b=0)(hd:depth<=32)(hn:n<=512)(hp:p<bs.length)(hbI:inI b)(hq:bh b (Opx.kd b)=5)(er:Nat×Nat)(hr1_:rdLab (bs.drop (p+1)) (p+1)=.error er):
  Calls prog 270 #[.pointer (some ⟨R,0,none⟩),.int .i64 b,.int .i64 depth] w (InsP R w A c bs (.error er)):=by
 have hRX:=h.lt
 have HOp:=hop h b depth hc hd hn hp
 have HBh:=hid (λ(w:World) (nmv:ByteArray) (tv:Value) (g y:Int) (sv:Bool)=>behind_any b (Opx.kd b) g y nmv tv sv w)
 rw[hq]at HBh
 unfold opC at HOp
 have HE1:Hid (∀wx,Rdr R wx A c bs (p+1) (n+1)->Calls prog 284 #[.pointer (some ⟨R,0,none⟩)] wx (LabP R wx A c bs (n+1) (.error er))):=hid (λwx h=>by rw[<-hr1_];exact labels_any h)
 unfold LabP at HE1
 clear hr1_
 clear h hc hq
 unfold InsP insC
 dsimp only
 go_enter func270,ntmps270
 go_wp2_with(first
   |(go_at_call 280;((with_reducible refine(HOp.out _).mono ?_);rintro e w1 ⟨At,mt,ct,nmv,yv,sv,rfl,hr1,hk1⟩;have hX1:w.heap.size<w1.heap.size:=zj (by simp) hk1.size;have HR1:=hid hr1;have HK1:=hid hk1;clear hr1 hk1))
   |(go_at_call 260;((with_reducible refine(HBh.out _ _ _ _ _ _).mono ?_);rintro e w2 ⟨rfl,hb2⟩;obtain⟨hsw,hY,yg,hrw⟩:=Is.first hRX HK1.out HR1.out hb2;have HSw2:=hid hsw;have HRw2:=hid hrw;clear hsw hrw hb2;obtain⟨x0,x1,x2,x3,x4,x5,x6,x7,x8,xf,hXl⟩:=HSw2.out.x;obtain⟨z0,z1,z2,z3,z4,z5,z6,z7,z8,zf,hZl⟩:=HSw2.out.z;))
   |(go_at_call 284;(with_reducible refine(HE1.out _ HRw2.out).mono ?_);rintro e w3 ⟨v,rfl,⟨sb,so,rfl,hs1,hs2⟩,hk⟩;clear x0 x1 x2 x3 x4 x5 x6 x7 x8 z0 z1 z2 z3 z4 z5 z6 z7 z8 xf zf hXl hZl;have HSw3:Hid (Is R w w3 (w1.heap.size+1) #[.int .i64 b,.int .i64 0,.int .i64 0,.int .u64 0,.int .i64 0,.slice none 0 0,.slice none 0 0,.slice none 0 0,.bool false]):=hid (HSw2.out.step hk);have hsX:sb≠w.heap.size:=no_spotA HSw3.out.hx rfl hs2;have hsZ:sb≠(w1.heap.size+1):=no_spotA HSw3.out.hz rfl hs2;have HS1:=hid hs1;have HS2:=hid hs2;obtain⟨x0,x1,x2,x3,x4,x5,x6,x7,x8,xf,hXl⟩:=HSw3.out.x;obtain⟨z0,z1,z2,z3,z4,z5,z6,z7,z8,zf,hZl⟩:=HSw3.out.z;clear hs1 hs2 hk))
 have hRZ:R<w1.heap.size+1:=by omega
 refine bodyPost_ret (v:=.tuple #[.agg #[.int .i64 b,.int .i64 0,.int .i64 0,.int .u64 0,.int .i64 0,.slice none 0 0,.slice none 0 0,.slice none 0 0,.bool false],.iface 115 (.pointer (some ⟨sb,so,none⟩))]) (by simp[results,results270,go_sem,x0,x1,x2,x3,x4,x5,x6,x7,x8,z0,z1,z2,z3,z4,z5,z6,z7,z8,hXl]) rfl ?_
 exact⟨_,⟨⟨b,0,0,0,0,[],.nil,.nil,false⟩,⟨none,0,none,0,none,0⟩⟩,rfl,⟨sb,so,rfl,cell_set9 (cell_set_ne HS1.out hsZ) hsX,cell_set9 (cell_set_ne HS2.out hsZ) hsX⟩,(HSw3.out.set 5 _ (by simp)).k.set9 (.inr (zq _))⟩
theorem ins_5k(h:Rdr R w A c bs p n)(b:Int)(depth:Nat)(hc:opChk depth n b=0)(hd:depth<=32)(hn:n<=512)(hp:p<bs.length)(hbI:inI b)(hq:bh b (Opx.kd b)=5)(L:List Int)(l':List UInt8)(p':Nat)(hr1_:rdLab (bs.drop (p+1)) (p+1)=.ok (L,l',p')):
  Calls prog 270 #[.pointer (some ⟨R,0,none⟩),.int .i64 b,.int .i64 depth] w (InsP R w A c bs (.ok ((⟨b,0,0,0,0,L,.nil,.nil,false⟩,n+1),l',p'))):=by
 have hRX:=h.lt
 have HOp:=hop h b depth hc hd hn hp
 have HBh:=hid (λ(w:World) (nmv:ByteArray) (tv:Value) (g y:Int) (sv:Bool)=>behind_any b (Opx.kd b) g y nmv tv sv w)
 rw[hq]at HBh
 unfold opC at HOp
 have HE1:Hid (∀wx,Rdr R wx A c bs (p+1) (n+1)->Calls prog 284 #[.pointer (some ⟨R,0,none⟩)] wx (LabP R wx A c bs (n+1) (.ok (L,l',p')))):=hid (λwx h=>by rw[<-hr1_];exact labels_any h)
 unfold LabP at HE1
 have HLI:=hid (lab_got hr1_)
 clear hr1_
 clear h hc hq
 unfold InsP insC
 dsimp only
 go_enter func270,ntmps270
 go_wp2_with(first
   |(go_at_call 280;((with_reducible refine(HOp.out _).mono ?_);rintro e w1 ⟨At,mt,ct,nmv,yv,sv,rfl,hr1,hk1⟩;have hX1:w.heap.size<w1.heap.size:=zj (by simp) hk1.size;have HR1:=hid hr1;have HK1:=hid hk1;clear hr1 hk1))
   |(go_at_call 260;((with_reducible refine(HBh.out _ _ _ _ _ _).mono ?_);rintro e w2 ⟨rfl,hb2⟩;obtain⟨hsw,hY,yg,hrw⟩:=Is.first hRX HK1.out HR1.out hb2;have HSw2:=hid hsw;have HRw2:=hid hrw;clear hsw hrw hb2;obtain⟨x0,x1,x2,x3,x4,x5,x6,x7,x8,xf,hXl⟩:=HSw2.out.x;obtain⟨z0,z1,z2,z3,z4,z5,z6,z7,z8,zf,hZl⟩:=HSw2.out.z;))
   |(go_at_call 284;(with_reducible refine(HE1.out _ HRw2.out).mono ?_);rintro e w3 ⟨A5,c5,rfl,l5,m5,ns5,hr,hk⟩;clear x0 x1 x2 x3 x4 x5 x6 x7 x8 z0 z1 z2 z3 z4 z5 z6 z7 z8 xf zf hXl hZl;have HSw3:=hid (HSw2.out.step hk);have HRw3:=hid hr;have HNs:=hid ns5;have hw2:=HSw2.out.k.size;have hlx2:=HSw2.out.lx;have hlz2:=HSw2.out.lz;obtain⟨x0,x1,x2,x3,x4,x5,x6,x7,x8,xf,hXl⟩:=HSw3.out.x;obtain⟨z0,z1,z2,z3,z4,z5,z6,z7,z8,zf,hZl⟩:=HSw3.out.z;clear hr hk ns5))
 have hRZ:R<w1.heap.size+1:=by omega
 refine bodyPost_ret (v:=.tuple #[.agg #[.int .i64 b,.int .i64 0,.int .i64 0,.int .u64 0,.int .i64 0,.slice A5 L.length c5,.slice none 0 0,.slice none 0 0,.bool false],.nilIface]) (by simp[results,results270,go_sem,x0,x1,x2,x3,x4,x5,x6,x7,x8,z0,z1,z2,z3,z4,z5,z6,z7,z8,hXl]) rfl ?_
 refine⟨⟨A5,c5,none,0,none,0⟩,rfl,?_,(HRw3.out.setOther hRZ 5 _).set9 hRX,(HSw3.out.set 5 _ (by simp)).k.set9 (.inr (zq _))⟩
 exact newN_lab hbI HLI.out l5 m5 (HNs.out.move (agr_of_heap λbl hb=>((((Kx.refl_ (M:=Two w.heap.size (w1.heap.size+1)) (w:=w3)).setCell (p:=⟨(w1.heap.size+1),5,none⟩) (.inl (.inr rfl)) _).set9 (.inl (.inl rfl)))).block bl hb.2 (by have:=hb.1;simp;omega)) (λbl hb=>⟨zy hw2 hb.1,zj hb.2 ((((Kx.refl_ (M:=Two w.heap.size (w1.heap.size+1)) (w:=w3)).setCell (p:=⟨(w1.heap.size+1),5,none⟩) (.inl (.inr rfl)) _).set9 (.inl (.inl rfl)))).size⟩) ((((Kx.refl_ (M:=Two w.heap.size (w1.heap.size+1)) (w:=w3)).setCell (p:=⟨(w1.heap.size+1),5,none⟩) (.inl (.inr rfl)) _).set9 (.inl (.inl rfl)))).size)
theorem ins_1e(h:Rdr R w A c bs p n)(b:Int)(depth:Nat)(hc:opChk depth n b=0)(hd:depth<=32)(hn:n<=512)(hp:p<bs.length)(hbI:inI b)(hq:bh b (Opx.kd b)=1){fuel:Nat}(hL:ListC fuel)(hfu:bs.length-(p+1)<fuel)(hd2:depth<32)(hn2:n<512)(er:Nat×Nat)(hr1_:rdB fuel (depth+1) (n+1) b (bs.drop (p+1)) (p+1)=.error er):
  Calls prog 270 #[.pointer (some ⟨R,0,none⟩),.int .i64 b,.int .i64 depth] w (InsP R w A c bs (.error er)):=by
 have hRX:=h.lt
 have HOp:=hop h b depth hc hd hn hp
 have HBh:=hid (λ(w:World) (nmv:ByteArray) (tv:Value) (g y:Int) (sv:Bool)=>behind_any b (Opx.kd b) g y nmv tv sv w)
 rw[hq]at HBh
 unfold opC at HOp
 have HE1:Hid (∀wx Zx,Rdr R wx A c bs (p+1) (n+1)->(∀i,wx.cell? ⟨Zx,i,none⟩=(insZ b)[i]?)->(∀i,wx.frozen? ⟨Zx,i,none⟩=false)->R<Zx->Calls prog 281 #[.pointer (some ⟨R,0,none⟩),.pointer (some ⟨Zx,0,none⟩),.int .i64 ((depth:Int)+1)] wx (BlkP R Zx wx A c bs (.error er))):=hid (λwx Zx h hX hf hRX=>by
  have:=block_any (X:=Zx) hL h b (depth+1) hX hf hRX (by omega) (by omega) (by omega) hbI
  rw[hr1_]at this
  simpa using this)
 unfold BlkP at HE1
 clear hr1_ hL
 clear h hc hq
 unfold InsP insC
 dsimp only
 go_enter func270,ntmps270
 go_wp2_with(first
   |(go_at_call 280;((with_reducible refine(HOp.out _).mono ?_);rintro e w1 ⟨At,mt,ct,nmv,yv,sv,rfl,hr1,hk1⟩;have hX1:w.heap.size<w1.heap.size:=zj (by simp) hk1.size;have HR1:=hid hr1;have HK1:=hid hk1;clear hr1 hk1))
   |(go_at_call 260;((with_reducible refine(HBh.out _ _ _ _ _ _).mono ?_);rintro e w2 ⟨rfl,hb2⟩;obtain⟨hsw,hY,yg,hrw⟩:=Is.first hRX HK1.out HR1.out hb2;have HSw2:=hid hsw;have HRw2:=hid hrw;clear hsw hrw hb2;obtain⟨x0,x1,x2,x3,x4,x5,x6,x7,x8,xf,hXl⟩:=HSw2.out.x;obtain⟨z0,z1,z2,z3,z4,z5,z6,z7,z8,zf,hZl⟩:=HSw2.out.z;))
   |(go_at_call 281;(with_reducible refine(HE1.out _ _ HRw2.out HSw2.out.hz HSw2.out.fz (by omega)).mono ?_);rintro e w3 ⟨v,C,rfl,⟨sb,so,rfl,hs1,hs2⟩,hc9,hk⟩;clear x0 x1 x2 x3 x4 x5 x6 x7 x8 z0 z1 z2 z3 z4 z5 z6 z7 z8 xf zf hXl hZl;obtain⟨⟨x0,x1,x2,x3,x4,x5,x6,x7,x8,xf,hXl⟩,hx_,hk_⟩:=HSw2.out.blk hk;obtain⟨z0,z1,z2,z3,z4,z5,z6,z7,z8⟩:=zs9 hc9;have HXw3:=hid hx_;have HKw3:=hid hk_;have hZl:(w1.heap.size+1)<w3.heap.size:=zj HSw2.out.lz hk.size;clear hx_ hk_;have hsX:sb≠w.heap.size:=no_spotA HXw3.out rfl hs2;have HS1:=hid hs1;have HS2:=hid hs2;clear hs1 hs2;clear hk hc9))
 have hRZ:R<w1.heap.size+1:=by omega
 refine bodyPost_ret (v:=.tuple #[.agg #[.int .i64 C.n.op,.int .i64 C.n.a,.int .i64 C.n.b,.int .u64 C.n.v,.int .i64 C.n.t,.slice C.p.AL C.n.L.length C.p.cL,.slice C.p.Ab (len C.n.body) C.p.cb,.slice C.p.Ae (len C.n.els) C.p.ce,.bool C.n.he],.iface 115 (.pointer (some ⟨sb,so,none⟩))]) (by simp[results,results270,go_sem,x0,x1,x2,x3,x4,x5,x6,x7,x8,z0,z1,z2,z3,z4,z5,z6,z7,z8,hXl]) rfl ?_
 exact⟨_,C,rfl,⟨sb,so,rfl,cell_set9 HS1.out hsX,cell_set9 HS2.out hsX⟩,HKw3.out.set9 (.inr (zq _))⟩
theorem ins_1k(h:Rdr R w A c bs p n)(b:Int)(depth:Nat)(hc:opChk depth n b=0)(hd:depth<=32)(hn:n<=512)(hp:p<bs.length)(hbI:inI b)(hq:bh b (Opx.kd b)=1){fuel:Nat}(hL:ListC fuel)(hfu:bs.length-(p+1)<fuel)(hd2:depth<32)(hn2:n<512)(nd:Nd)(n':Nat)(l':List UInt8)(p':Nat)(hr1_:rdB fuel (depth+1) (n+1) b (bs.drop (p+1)) (p+1)=.ok ((nd,n'),l',p')):
  Calls prog 270 #[.pointer (some ⟨R,0,none⟩),.int .i64 b,.int .i64 depth] w (InsP R w A c bs (.ok ((nd,n'),l',p'))):=by
 have hRX:=h.lt
 have HOp:=hop h b depth hc hd hn hp
 have HBh:=hid (λ(w:World) (nmv:ByteArray) (tv:Value) (g y:Int) (sv:Bool)=>behind_any b (Opx.kd b) g y nmv tv sv w)
 rw[hq]at HBh
 unfold opC at HOp
 have HE1:Hid (∀wx Zx,Rdr R wx A c bs (p+1) (n+1)->(∀i,wx.cell? ⟨Zx,i,none⟩=(insZ b)[i]?)->(∀i,wx.frozen? ⟨Zx,i,none⟩=false)->R<Zx->Calls prog 281 #[.pointer (some ⟨R,0,none⟩),.pointer (some ⟨Zx,0,none⟩),.int .i64 ((depth:Int)+1)] wx (BlkP R Zx wx A c bs (.ok ((nd,n'),l',p')))):=hid (λwx Zx h hX hf hRX=>by
  have:=block_any (X:=Zx) hL h b (depth+1) hX hf hRX (by omega) (by omega) (by omega) hbI
  rw[hr1_]at this
  simpa using this)
 unfold BlkP at HE1
 clear hr1_ hL
 clear h hc hq
 unfold InsP insC
 dsimp only
 go_enter func270,ntmps270
 go_wp2_with(first
   |(go_at_call 280;((with_reducible refine(HOp.out _).mono ?_);rintro e w1 ⟨At,mt,ct,nmv,yv,sv,rfl,hr1,hk1⟩;have hX1:w.heap.size<w1.heap.size:=zj (by simp) hk1.size;have HR1:=hid hr1;have HK1:=hid hk1;clear hr1 hk1))
   |(go_at_call 260;((with_reducible refine(HBh.out _ _ _ _ _ _).mono ?_);rintro e w2 ⟨rfl,hb2⟩;obtain⟨hsw,hY,yg,hrw⟩:=Is.first hRX HK1.out HR1.out hb2;have HSw2:=hid hsw;have HRw2:=hid hrw;clear hsw hrw hb2;obtain⟨x0,x1,x2,x3,x4,x5,x6,x7,x8,xf,hXl⟩:=HSw2.out.x;obtain⟨z0,z1,z2,z3,z4,z5,z6,z7,z8,zf,hZl⟩:=HSw2.out.z;))
   |(go_at_call 281;(with_reducible refine(HE1.out _ _ HRw2.out HSw2.out.hz HSw2.out.fz (by omega)).mono ?_);rintro e w3 ⟨pl,rfl,hc9,nn,hr,hk⟩;clear x0 x1 x2 x3 x4 x5 x6 x7 x8 z0 z1 z2 z3 z4 z5 z6 z7 z8 xf zf hXl hZl;obtain⟨⟨x0,x1,x2,x3,x4,x5,x6,x7,x8,xf,hXl⟩,hx_,hk_⟩:=HSw2.out.blk hk;obtain⟨z0,z1,z2,z3,z4,z5,z6,z7,z8⟩:=zs9 hc9;have HXw3:=hid hx_;have HKw3:=hid hk_;have hZl:(w1.heap.size+1)<w3.heap.size:=zj HSw2.out.lz hk.size;clear hx_ hk_;have HNn:=hid nn;have HRw3:=hid hr;have hw2:=HSw2.out.k.size;have hlx2:=HSw2.out.lx;clear nn hr;clear hk hc9))
 have hRZ:R<w1.heap.size+1:=by omega
 refine bodyPost_ret (v:=.tuple #[.agg #[.int .i64 nd.op,.int .i64 nd.a,.int .i64 nd.b,.int .u64 nd.v,.int .i64 nd.t,.slice pl.AL nd.L.length pl.cL,.slice pl.Ab (len nd.body) pl.cb,.slice pl.Ae (len nd.els) pl.ce,.bool nd.he],.nilIface]) (by simp[results,results270,go_sem,x0,x1,x2,x3,x4,x5,x6,x7,x8,z0,z1,z2,z3,z4,z5,z6,z7,z8,hXl]) rfl ?_
 refine⟨pl,rfl,?_,HRw3.out.set9 hRX,HKw3.out.set9 (.inr (zq _))⟩
 exact HNn.out.move (agr_of_heap λbl hb=>(((Kx.refl_ (M:=Two w.heap.size (w1.heap.size+1)) (w:=w3)).set9 (.inl (.inl rfl)))).block bl hb.2 (by have:=hb.1;have:=HSw2.out.lz;simp;omega)) (λbl hb=>⟨zy hw2 hb.1,zj hb.2 (((Kx.refl_ (M:=Two w.heap.size (w1.heap.size+1)) (w:=w3)).set9 (.inl (.inl rfl)))).size⟩) (((Kx.refl_ (M:=Two w.heap.size (w1.heap.size+1)) (w:=w3)).set9 (.inl (.inl rfl)))).size
end
section
variable{R:Nat}{w:World}{A:Option Addr}{c:Nat}{bs:List UInt8}{p n:Nat}
theorem ins_bad(h:Rdr R w A c bs p n)(b:Int)(depth k:Nat)(hk:opChk depth n b=k)(hk0:k≠0)(hd:depth<=32)(hn:n<=512)(hbI:inI b):
  Calls prog 270 #[.pointer (some ⟨R,0,none⟩),.int .i64 b,.int .i64 depth] w (InsP R w A c bs (.error (k,p))):=by
 have hRX:=h.lt
 have HOp:=hid (λo=>operation_err (h.later ((zx _ _).alloc (zq _) o)) b depth k hk hk0 hd hn hbI.1 hbI.2)
 unfold noV at HOp
 clear h hk hk0
 unfold InsP insC
 dsimp only
 go_enter func270,ntmps270
 go_wp2_with(first
  |(go_at_call 280;(with_reducible refine(HOp.out _).mono ?_);rintro e w1 ⟨v,rfl,⟨sb,so,rfl,hs1,hs2⟩,hk1⟩;have hX1:w.heap.size<w1.heap.size:=zj (by simp) hk1.size;have HX1:Hid (∀i,w1.cell? ⟨w.heap.size,i,none⟩=(insZ 0)[i]?):=hid (λi=>(zm (a:=⟨w.heap.size,i,none⟩) (hk1.block _ (by simp) (by simp;omega))).trans (zv _ _ _ _ rfl));have xf:∀i,w1.frozen? ⟨w.heap.size,i,none⟩=false:=(λi=>(hk1.frozen (by simp) (by simp;omega)).trans (zw _ _ _ _ rfl));have hsX:sb≠w.heap.size:=no_spotA HX1.out rfl hs2;have HS1:=hid hs1;have HS2:=hid hs2;have HK1:=hid ((Kx.refl_.alloc _).trans hk1);have x0:w1.cell? ⟨w.heap.size,0,none⟩=some (.int .i64 0):=HX1.out 0;have x1:w1.cell? ⟨w.heap.size,1,none⟩=some (.int .i64 0):=HX1.out 1;have x2:w1.cell? ⟨w.heap.size,2,none⟩=some (.int .i64 0):=HX1.out 2;have x3:w1.cell? ⟨w.heap.size,3,none⟩=some (.int .u64 0):=HX1.out 3;have x4:w1.cell? ⟨w.heap.size,4,none⟩=some (.int .i64 0):=HX1.out 4;have x5:w1.cell? ⟨w.heap.size,5,none⟩=some (.slice none 0 0):=HX1.out 5;have x6:w1.cell? ⟨w.heap.size,6,none⟩=some (.slice none 0 0):=HX1.out 6;have x7:w1.cell? ⟨w.heap.size,7,none⟩=some (.slice none 0 0):=HX1.out 7;have x8:w1.cell? ⟨w.heap.size,8,none⟩=some (.bool false):=HX1.out 8;clear hs1 hs2 hk1))
 refine bodyPost_ret (v:=.tuple #[.agg #[.int .i64 0,.int .i64 0,.int .i64 0,.int .u64 0,.int .i64 0,.slice none 0 0,.slice none 0 0,.slice none 0 0,.bool false],.iface 115 (.pointer (some ⟨sb,so,none⟩))]) (by simp[results,results270,go_sem,x0,x1,x2,x3,x4,x5,x6,x7,x8,hX1]) rfl ?_
 exact⟨_,⟨⟨0,0,0,0,0,[],.nil,.nil,false⟩,⟨none,0,none,0,none,0⟩⟩,rfl,SpotIs.below ⟨sb,so,rfl,(cell_set_ne (cell_set_ne (cell_set_ne (cell_set_ne (cell_set_ne (cell_set_ne (cell_set_ne (cell_set_ne (cell_set_ne HS1.out hsX) hsX) hsX) hsX) hsX) hsX) hsX) hsX) hsX),(cell_set_ne (cell_set_ne (cell_set_ne (cell_set_ne (cell_set_ne (cell_set_ne (cell_set_ne (cell_set_ne (cell_set_ne HS2.out hsX) hsX) hsX) hsX) hsX) hsX) hsX) hsX) hsX)⟩ ((zx _ _).alloc (zq _) _),(((((((((HK1.out.setCell (p:=⟨w.heap.size,0,none⟩) (.inr (zq _)) _).setCell (p:=⟨w.heap.size,1,none⟩) (.inr (zq _)) _).setCell (p:=⟨w.heap.size,2,none⟩) (.inr (zq _)) _).setCell (p:=⟨w.heap.size,3,none⟩) (.inr (zq _)) _).setCell (p:=⟨w.heap.size,4,none⟩) (.inr (zq _)) _).setCell (p:=⟨w.heap.size,5,none⟩) (.inr (zq _)) _).setCell (p:=⟨w.heap.size,6,none⟩) (.inr (zq _)) _).setCell (p:=⟨w.heap.size,7,none⟩) (.inr (zq _)) _).setCell (p:=⟨w.heap.size,8,none⟩) (.inr (zq _)) _).alloc _⟩
def rdO(fuel depth n:Nat)(b:Int)(l:List UInt8)(p:Nat):Rs (Nd×Nat):=if opChk depth n b≠0 then .error (opChk depth n b,p)else rdI fuel depth (n+1) b l (p+1)
theorem ins_any{fuel:Nat}(hL:ListC fuel)(h:Rdr R w A c bs p n)(b:Int)(depth:Nat)(hd:depth<=32)(hn:n<=512)(hp:p<bs.length)(hbI:inI b)(hfu:bs.length-(p+1)<fuel):
  Calls prog 270 #[.pointer (some ⟨R,0,none⟩),.int .i64 b,.int .i64 depth] w (InsP R w A c bs (rdO fuel depth n b (bs.drop (p+1)) p)):=by
 unfold rdO
 by_cases hc:opChk depth n b≠0
 ·
  rw[if_pos hc]
  exact ins_bad h b depth _ rfl hc hd hn hbI
 rw[if_neg hc]
 have hc:opChk depth n b=0:=by omega
 have hcs:knd b≠0/\n<512/\(knd b=2->depth<32):=by
  rcases opChk_cases depth n b with⟨_,h1⟩|⟨_,_,h1⟩|⟨_,_,_,h1⟩|⟨_,_,_,_,h1⟩|⟨_,h2,h3,h4,_⟩
  all_goals first|(rw[h1]at hc;cases hc)|exact⟨h2,h3,h4⟩
 obtain⟨h0,hn2,hdd⟩:=hcs
 have hq:=bh_eq b h0
 by_cases c0:knd b=2
 ·
  rw[if_pos c0]at hq
  rw[rdI_block _ _ _ _ _ _ c0]
  cases hr:rdB fuel (depth+1) (n+1) b (bs.drop (p+1)) (p+1)with
  |error er=>exact ins_1e h b depth hc hd hn hp hbI hq hL hfu (hdd c0) hn2 er hr
  |ok r=>obtain⟨⟨nd,n'⟩,l',p'⟩:=r;exact ins_1k h b depth hc hd hn hp hbI hq hL hfu (hdd c0) hn2 nd n' l' p' hr
 rw[if_neg c0]at hq
 unfold rdI rdP
 rw[if_neg c0]
 by_cases c1:knd b=7\/knd b=8
 ·
  rw[if_pos c1]at hq⊢
  cases hr:rdInt (bs.drop (p+1)) (p+1)with
  |error er=>exact ins_4e h b depth hc hd hn hp hbI hq er hr
  |ok r=>
   obtain⟨a,l1,p1⟩:=r
   cases hr2:rdInt l1 p1 with
   |error er=>simp only[hr2];exact ins_4ke h b depth hc hd hn hp hbI hq a l1 p1 hr er hr2
   |ok r2=>obtain⟨a2,l2,p2⟩:=r2;simp only[hr2];exact ins_4kk h b depth hc hd hn hp hbI hq a l1 p1 hr a2 l2 p2 hr2
 rw[if_neg c1]at hq⊢
 by_cases c2:knd b=9
 ·
  rw[if_pos c2]at hq⊢
  cases hr:rdMust 0 (bs.drop (p+1)) (p+1)with
  |error er=>exact ins_6e h b depth hc hd hn hp hbI hq er hr
  |ok r=>obtain⟨u,l1,p1⟩:=r;exact ins_6k h b depth hc hd hn hp hbI hq u l1 p1 hr
 rw[if_neg c2]at hq⊢
 by_cases c3:b=65
 ·
  rw[if_pos (Or.inl c3)]at hq
  rw[if_pos c3]
  have hg:(Opx.gv b=1/\32=32)\/(Opx.gv b=2/\32=64):=.inl ⟨by rw[c3,gv_65],rfl⟩
  cases hr:rdSig 32 (bs.drop (p+1)) (p+1)with
  |error er=>exact ins_7e h b depth hc hd hn hp hbI hq 32 hg er hr
  |ok r=>obtain⟨z,l1,p1⟩:=r;exact ins_7k h b depth hc hd hn hp hbI hq 32 hg z l1 p1 hr
 rw[if_neg c3]
 by_cases c4:b=66
 ·
  rw[if_pos (Or.inr c4)]at hq
  rw[if_pos c4]
  have hg:(Opx.gv b=1/\64=32)\/(Opx.gv b=2/\64=64):=.inr ⟨by rw[c4,gv_66],rfl⟩
  cases hr:rdSig 64 (bs.drop (p+1)) (p+1)with
  |error er=>exact ins_7e h b depth hc hd hn hp hbI hq 64 hg er hr
  |ok r=>obtain⟨z,l1,p1⟩:=r;exact ins_7k h b depth hc hd hn hp hbI hq 64 hg z l1 p1 hr
 rw[if_neg c4]
 rw[if_neg (by omega)]at hq
 by_cases c5:b=14
 ·
  rw[if_pos c5]at hq⊢
  cases hr:rdLab (bs.drop (p+1)) (p+1)with
  |error er=>
   have:=ins_5e h b depth hc hd hn hp hbI hq er hr
   unfold rdLab at hr
   cases hr1:rdInt (bs.drop (p+1)) (p+1)with
   |error e1=>rw[hr1]at hr;injection hr with hr;subst hr;exact this
   |ok r1=>
    obtain⟨m,l1,p1⟩:=r1
    rw[hr1]at hr
    simp only at hr⊢
    split at hr
    ·rename_i hm;rw[if_pos hm];injection hr with hr;subst hr;exact this
    ·rename_i hm;rw[if_neg hm];simp only[hr];exact this
  |ok r=>
   obtain⟨L,l2,p2⟩:=r
   have:=ins_5k h b depth hc hd hn hp hbI hq L l2 p2 hr
   unfold rdLab at hr
   cases hr1:rdInt (bs.drop (p+1)) (p+1)with
   |error e1=>rw[hr1]at hr;cases hr
   |ok r1=>
    obtain⟨m,l1,p1⟩:=r1
    rw[hr1]at hr
    simp only at hr⊢
    split at hr
    ·cases hr
    ·rename_i hm;rw[if_neg hm];simp only[hr];exact this
 rw[if_neg c5]at hq⊢
 by_cases c6:b=17
 ·
  rw[if_pos c6]at hq⊢
  cases hr:rdInt (bs.drop (p+1)) (p+1)with
  |error er=>exact ins_3e h b depth hc hd hn hp hbI hq er hr
  |ok r=>
   obtain⟨a,l1,p1⟩:=r
   cases hr2:rdMust 0 l1 p1 with
   |error er=>simp only[hr2];exact ins_3ke h b depth hc hd hn hp hbI hq a l1 p1 hr er hr2
   |ok r2=>obtain⟨u,l2,p2⟩:=r2;simp only[hr2];exact ins_3kk h b depth hc hd hn hp hbI hq a l1 p1 hr u l2 p2 hr2
 rw[if_neg c6]at hq⊢
 by_cases c7:knd b=4\/knd b=6\/b=12\/b=13
 ·
  rw[if_pos c7]at hq⊢
  cases hr:rdInt (bs.drop (p+1)) (p+1)with
  |error er=>exact ins_2e h b depth hc hd hn hp hbI hq er hr
  |ok r=>obtain⟨a,l1,p1⟩:=r;exact ins_2k h b depth hc hd hn hp hbI hq a l1 p1 hr
 rw[if_neg c7]at hq⊢
 exact ins_0 h b depth hc hd hn hp hbI hq
end
end Go.Proofs.YteoijlfipmaoeaaGreatDoor
namespace Go.Proofs.YteoijlfipmaoeaaGreatDoor.Trx
theorem flt_5:Opx.flt 5=false:=by decide +kernel
theorem step_eq(f depth n:Nat)(b:UInt8)(l:List UInt8)(p:Nat)(mayE:Bool)(pre:List Nd)(h11:b≠11)(h5:b=5->mayE=false):
  finE mayE (preN pre (rdL (f+1) depth n (b::l) p))=match rdO f depth n b.toNat l p with
   |.error er=>.error er
   |.ok ((nd,n'),l',p')=>finE mayE (preN (pre++[nd]) (rdL f depth n' l' p')):=by
 rw[rdL_cons]
 unfold stepL rdO
 by_cases hb:b=5
 ·
  rw[if_pos (.inr hb),h5 hb,hb]
  have hk:knd ((5:UInt8).toNat:Int)=0:=knd_5
  have hf:Opx.flt ((5:UInt8).toNat:Int)=false:=flt_5
  have hc:opChk depth n ((5:UInt8).toNat:Int)=2:=by
   unfold opChk
   rw[hf,hk]
   simp
  rw[hc]
  simp[preN,finE]
 ·
  rw[if_neg (by simp[h11,hb])]
  by_cases hc:opChk depth n b.toNat≠0
  ·rw[if_pos hc,if_pos hc];rfl
  ·
   rw[if_neg hc,if_neg hc]
   rcases rdI f depth (n+1) b.toNat l (p+1)with e|⟨⟨nd,n'⟩,l',p'⟩
   ·rfl
   ·simp only[preN_preN]
theorem rdO_got{f depth n:Nat}{b:Int}{bs:List UInt8}{p:Nat}{nd:Nd}{n':Nat}{l':List UInt8}{p':Nat}(h:rdO f depth n b (bs.drop (p+1)) p=.ok ((nd,n'),l',p'))(hp:p+1<=bs.length)(hd:depth<=32)(hn:n<=512):
  l'=bs.drop p'/\p<p'/\p'<=bs.length/\n+1<=n'/\n'<=512:=by
 unfold rdO at h
 split at h
 ·cases h
 rename_i hc
 have hcs:knd b≠0/\n<512/\(knd b=2->depth<32):=by
  rcases opChk_cases depth n b with⟨_,h1⟩|⟨_,_,h1⟩|⟨_,_,_,h1⟩|⟨_,_,_,_,h1⟩|⟨_,h2,h3,h4,_⟩
  all_goals first|exact⟨h2,h3,h4⟩|(exfalso;apply hc;rw[h1];decide)
 obtain⟨h0,hn2,hdd⟩:=hcs
 by_cases c0:knd b=2
 ·
  rw[rdI_block _ _ _ _ _ _ c0]at h
  have hd2:=hdd c0
  unfold rdB at h
  cases hk:rdKind (bs.drop (p+1)) (p+1)with
  |error e=>rw[hk]at h;cases h
  |ok r=>
   obtain⟨t,l1,p1⟩:=r
   rw[hk]at h
   obtain⟨rfl,e1,e2⟩:=Adv.dropped (kind_got hk).2 hp
   simp only at h
   cases hf1:finE (b==4) (rdL f (depth+1) (n+1) (bs.drop p1) p1)with
   |error e=>rw[hf1]at h;cases h
   |ok x=>
    obtain⟨⟨body,last,n2⟩,l2,p2⟩:=x
    rw[hf1]at h
    have hg:=rdL_got _ _ _ _ _ _ _ _ _ _ (finE_ok hf1).1 (by omega) (by omega)
    obtain⟨rfl,e3,e4⟩:=Adv.dropped hg.adv e2
    have hgn:=hg.n
    have hgl:=hg.le
    simp only at h
    split at h
    ·
     cases hf2:finE false (rdL f (depth+1) n2 (bs.drop p2) p2)with
     |error e=>rw[hf2]at h;cases h
     |ok x=>
      obtain⟨⟨els,last3,n3⟩,l3,p3⟩:=x
      rw[hf2]at h
      have hg3:=rdL_got _ _ _ _ _ _ _ _ _ _ (finE_ok hf2).1 (by omega) (by omega)
      obtain⟨rfl,e5,e6⟩:=Adv.dropped hg3.adv e4
      have:=hg3.n
      have:=hg3.le
      injection h with h
      simp only[Prod.mk.injEq]at h
      obtain⟨⟨-,rfl⟩,rfl,rfl⟩:=h
      exact⟨rfl,by omega,by omega,by omega,by omega⟩
    ·
     injection h with h
     simp only[Prod.mk.injEq]at h
     obtain⟨⟨-,rfl⟩,rfl,rfl⟩:=h
     exact⟨rfl,by omega,by omega,by omega,by omega⟩
 ·
  unfold rdI at h
  rw[if_neg c0]at h
  cases hr:rdP b (bs.drop (p+1)) (p+1)with
  |error e=>rw[hr]at h;cases h
  |ok r=>
   obtain⟨nd1,l1,p1⟩:=r
   rw[hr]at h
   injection h with h
   simp only[Prod.mk.injEq]at h
   obtain⟨⟨-,rfl⟩,rfl,rfl⟩:=h
   obtain⟨_,_,_,_,-,-,-,-,hadv⟩:=plain_got h0 c0 hr
   obtain⟨rfl,e1,e2⟩:=Adv.dropped hadv hp
   exact⟨rfl,by omega,e2,by omega,by omega⟩
end Go.Proofs.YteoijlfipmaoeaaGreatDoor.Trx
namespace Go.Proofs.YteoijlfipmaoeaaGreatDoor
open Lib (hid)
open Go.RowKit Trx
open Go.Proofs.Tryz
section
variable{B:Nat}{w0 w w':World}{e:TypeId}{k:Nat}{v:Value}{rs:List (List Value)}
theorem OwnK.self(h:OwnK B w0 w e k v rs):OwnK B w w e k v rs:=⟨h.row,h.len,zx _ _,h.le⟩
theorem OwnK.kx{R:Nat}(h:OwnK B w w e k v rs)(hk:Kx (Only R) w w')(hR:R<B):OwnK B w' w' e k v rs:=by
 refine⟨⟨h.row.1,?_⟩,h.len,zx _ _,zy h.le hk.size⟩
 rcases h.row.2 with⟨rfl,hn⟩|⟨g,cap,cur,rfl,hg,hcur,hrest⟩
 ·exact .inl ⟨rfl,hn⟩
 ·
  refine .inr ⟨g,cap,cur,rfl,hg,?_,hrest⟩
  have hlt:g<w.heap.size:=by
   rcases qm g w.heap.size with h1|h1
   ·exact h1
   ·rw[qi h1]at hcur;cases hcur
  rw[hk.block g hlt (by simp;omega)];exact hcur
end
def posOf(R:Nat)(w:World):Nat:=match w.cell? ⟨R,1,none⟩with
 |some (.int _ x)=>x.toNat
 |_=>0
theorem Rdr.pos{R:Nat}{w:World}{A:Option Addr}{c:Nat}{bs:List UInt8}{p n:Nat}(h:Rdr R w A c bs p n):posOf R w=p:=by
 unfold posOf
 rw[h.c1]
 simp
def LsL(R:Nat)(w:World)(A:Option Addr)(c:Nat)(bs:List UInt8)(fuel depth n p:Nat)(mayE:Bool)(lv:Value)(wr:World):Prop:=
 ∃(ins:List In) (pj nj fj:Nat),finE mayE (rdL fuel depth n (bs.drop p) p)=finE mayE (preN (ins.map (·.n)) (rdL fj depth nj (bs.drop pj) pj))/\bs.length-pj<fj/\fj<=fuel/\nj<=512/\ins.length<=nj/\
  Rdr R wr A c bs pj nj/\Kx (Only R) w wr/\OwnK w.heap.size wr wr 59 9 lv (ins.map In.cells)/\∀x∈ins,NewN (CpS w.heap.size wr lv) wr wr.heap.size x
theorem made_list{R lo:Nat}{w w':World}{lv:Value}{ins:List In}(ho:OwnK lo w w 59 9 lv (ins.map In.cells))(hn:∀x∈ins,NewN (CpS lo w lv) w w.heap.size x)(hk:Kx (Only R) w w')(hR:R<lo):
  ∃A' c',lv=.slice A' (len (ofN (ins.map (·.n)))) c'/\len (ofN (ins.map (·.n)))<=c'/\c'<=maxLen/\NewF (Win lo w') w' w'.heap.size A' (ofN (ins.map (·.n))):=by
 obtain⟨A',c',hv,hc1,hc2,hrow⟩:=ho.formB (by omega)
 rw[zd]at hv hc1
 have hl:len (ofN (ins.map (·.n)))=ins.length:=by rw[len_ofN,zd]
 refine⟨A',c',by rw[hl];exact hv,by rw[hl];exact hc1,hc2,λwx ha hne=>?_⟩
 obtain⟨g,hg,hA,h1,h2,hc⟩:=hrow (λe=>hne (by
  have:=congrArg List.length e
  rw[zd,zh]at this
  rw[zc this];rfl))
 have hag:∀b o,lo<=b->b<w.heap.size->wx.cell? ⟨b,o,none⟩=w.cell? ⟨b,o,none⟩:=λb o hb1 hb2=>
  (ha b o ⟨hb1,zj hb2 hk.size⟩).trans (zm (hk.block b hb2 (by simp;omega)))
 refine⟨g,0,hA,RdF.mk λi nd hi=>?_⟩
 rw[nds_ofN,zr]at hi
 obtain⟨x,hx,rfl⟩:=Option.map_eq_some_iff.1 hi
 refine⟨x.p,zj h2 hk.size,λq hq=>?_,((hn x (zu hx)) wx (λb o hb=>hag b o hb.1 hb.2.1)).more hk.size⟩
 rw[qz,hag g _ h1 h2,hc i x.cells (by rw[zr,hx];rfl) q hq]
 simp
theorem list_any:∀fuel,ListC fuel:=by
 intro fuel
 induction fuel using Nat.strongRecOn with
 |ind fuel ih=>
  intro R w A c bs p n depth mayE h hfu hd hn
  have HIH:=hid ih
  have hRw:=h.lt
  have HR:=hid h
  clear ih h
  have hdi:(depth:Int)<=32:=by omega
  obtain⟨P,hP⟩:∃P,P=ListP R w A c bs (finE mayE (rdL fuel depth n (bs.drop p) p)):=⟨_,rfl⟩
  rw[<-hP]
  have HP:=hid hP
  clear hP
  go_enter func255,ntmps255
  go_wp2_with fail
  go_loopw [9] (λlv wr=>LsL R w A c bs fuel depth n p mayE lv wr) (λ_ wr=>bs.length-posOf R wr)
  case atStart=>exact⟨[],p,n,fuel,by rw[je,preN_nil],hfu,zq _,hn,qw _,HR.out,Kx.refl_,OwnK.nil_ _ _ _ _ (zx _ _) (zq _),by simp⟩
  case round=>
   obtain⟨ins,pj,nj,fj,hrd,hfj,hfl,hnj,hil,hrj,hkj,hoj,hnew⟩:=hrel
   obtain⟨f',rfl⟩:∃f',fj=f'+1:=⟨fj-1,by omega⟩
   have hpos:=hrj.pos
   have HRj:=hid hrj
   have HKj:=hid hkj
   have HOj:=hid hoj
   have HNew:=hid hnew
   have hszj:=hkj.size
   cases hg:bs[pj]? with
   |none=>
    obtain⟨rfl,hdr⟩:=at_end hg hrj.hp
    have HPe:Hid (P=ListP R w A c bs (.error (2,bs.length))):=hid (by rw[HP.out,hrd,hdr];rfl)
    have HPk:=hid (peek_end hrj)
    clear hrj hkj hoj hnew hrd hg hdr hpos
    go_wp2_with(first|(go_at_call 269;(with_reducible refine HPk.out.mono ?_);rintro e w1 ⟨v,rfl,⟨sb,so,rfl,hs1,hs2⟩,hb⟩;have HS1:=hid hs1;have HS2:=hid hs2;have HB:=hid hb;clear hs1 hs2 hb))
    refine bodyPost_ret (results_tmp3 rfl _ _ _) rfl ?_
    rw[HPe.out]
    exact⟨_,rfl,⟨sb,so,rfl,HS1.out,HS2.out⟩,HKj.out.trans (.of_below HB.out)⟩
   |some b=>
    have hplt:pj<bs.length:=(List.getElem?_eq_some_iff.1 hg).1
    have hpm:(pj:Int)<=9223372036854775806:=by have:=hrj.hc;have:=hrj.hm;unfold maxLen at this;omega
    have hdr:=drop_at hg
    have HPk:=hid (peek_ok hrj b hg)
    rw[hdr]at hrd
    by_cases hend:b=11\/(b=5/\mayE=true)
    ·
     have HPe:Hid (P=ListP R w A c bs (.ok ((ofN (ins.map (·.n)),b.toNat,nj),bs.drop (pj+1),pj+1))):=hid (by
      rw[HP.out,hrd,rdL_cons]
      unfold stepL
      rw[if_pos (by rcases hend with h|h;exact .inl h;exact .inr h.1)]
      simp only[preN,finE,nds,jy]
      rw[if_neg]
      rintro⟨h1,h2⟩
      rcases hend with h|h
      ·subst h;cases h1
      ·rw[h2]at h;cases h.2)
     clear hrj hkj hoj hnew hrd hg hdr
     have fin:∀w1:World,Rdr R w1 A c bs pj nj->Kx (Only R) wr w1->∃A' c',u9=.slice A' (len (ofN (ins.map (·.n)))) c'/\(∀e,e=.returned (.tuple #[.slice A' (len (ofN (ins.map (·.n)))) c',.int .u8 b.toNat,.nilIface])->P e (w1.setCell ⟨R,1,none⟩ (.int .i64 ((pj+1:Nat):Int)))):=λw1 hr1 hk1=>by
      have hkf:Kx (Only R) wr (w1.setCell ⟨R,1,none⟩ (.int .i64 ((pj+1:Nat):Int))):=hk1.setCell (p:=⟨R,1,none⟩) (.inl rfl) _
      obtain⟨A',c',hv,h1,h2,h3⟩:=made_list HOj.out HNew.out hkf hRw
      refine⟨A',c',hv,λe he=>?_⟩
      rw[HPe.out]
      exact⟨A',c',he,h1,h2,h3,hr1.setAt (by omega),HKj.out.trans hkf⟩
     have FIN:=hid fin
     clear fin
     rcases hend with rfl|⟨rfl,rfl⟩
     all_goals
      go_wp2_with(first|(go_at_call 269;(with_reducible refine HPk.out.mono ?_);rintro e w1 ⟨rfl,nq,hw1⟩;have HR1:Hid (Rdr R w1 A c bs pj nj):=hid (by rw[hw1];exact HRj.out.drewN nq);have HK1:Hid (Kx (Only R) wr w1):=hid (by rw[hw1];exact Kx.refl_.drewN nq);have d1:=HR1.out.c1;have df:=HR1.out.fr 1;have hlt1:=HR1.out.lt;clear hw1))
      obtain⟨A',c',hv,hf⟩:=FIN.out w1 HR1.out HK1.out
      subst hv
      refine bodyPost_ret (results_tmp3 rfl _ _ _) rfl ?_
      exact hf _ rfl
    ·
     have h11:b≠11:=λe=>hend (.inl e)
     have h5:b=5->mayE=false:=λe=>by cases mayE with|false=>rfl|true=>exact absurd (.inr ⟨e,rfl⟩) hend
     rw[step_eq f' depth nj b _ pj mayE _ h11 h5]at hrd
     have t11:((b.toNat:Int)==11)=false:=u8_ne (k:=11) h11 rfl
     have HCs:(((b.toNat:Int)==5)=true/\mayE=false)\/((b.toNat:Int)==5)=false:=by
      by_cases e:b=5
      ·subst e;exact .inl ⟨rfl,h5 rfl⟩
      ·exact .inr (u8_ne (k:=5) e rfl)
     have hb256:b.toNat<256:=UInt8.toNat_lt b
     have hbI:inI (b.toNat:Int):=⟨by omega,by omega⟩
     have HI:Hid (∀w1,Rdr R w1 A c bs pj nj->Calls prog 270 #[.pointer (some ⟨R,0,none⟩),.int .i64 (b.toNat:Int),.int .i64 depth] w1 (InsP R w1 A c bs (rdO f' depth nj b.toNat (bs.drop (pj+1)) pj))):=hid (λw1 hr1=>ins_any (HIH.out f' (by omega)) hr1 b.toNat depth hd hnj hplt hbI (by omega))
     have hx0:(0:Int)<=b.toNat:=by omega
     have hx1:(b.toNat:Int)<256:=by omega
     obtain⟨x,hx⟩:∃x:Int,x=b.toNat:=⟨_,rfl⟩
     rw[<-hx]at HPk t11 HCs HI hx0 hx1 hrd
     clear hrj hkj hoj hnew hg hdr h11 h5 hend hx hbI hb256 HIH
     cases hro:rdO f' depth nj x (bs.drop (pj+1)) pj with
     |error er=>
      rw[hro]at HI hrd
      have HPe:Hid (P=ListP R w A c bs (.error er)):=hid (by rw[HP.out,hrd])
      unfold InsP insC at HI
      clear hro hrd
      have HC2:(((x:Int)==5)=true/\mayE=false)\/(((x:Int)==5)=false/\mayE=true)\/(((x:Int)==5)=false/\mayE=false):=by rcases HCs with h|h;exact .inl h;cases mayE;exact .inr (.inr ⟨h,rfl⟩);exact .inr (.inl ⟨h,rfl⟩)
      clear HCs
      rcases HC2 with⟨t5,rfl⟩|⟨t5,rfl⟩|⟨t5,rfl⟩
      all_goals
       go_wp2_with(first
        |(go_at_call 269;(with_reducible refine HPk.out.mono ?_);rintro e w1 ⟨rfl,nq,hw1⟩;have HR1:Hid (Rdr R w1 A c bs pj nj):=hid (by rw[hw1];exact HRj.out.drewN nq);have HK1:Hid (Kx (Only R) wr w1):=hid (by rw[hw1];exact Kx.refl_.drewN nq);clear hw1)
        |(go_at_call 270;(with_reducible refine(HI.out _ HR1.out).mono ?_);rintro e w2 ⟨v,C,rfl,⟨sb,so,rfl,hs1,hs2⟩,hk2⟩;have HS1:=hid hs1;have HS2:=hid hs2;have HK2:=hid ((HKj.out.trans HK1.out).trans hk2);clear hs1 hs2 hk2))
       refine bodyPost_ret (results_tmp3 rfl _ _ _) rfl ?_
       rw[HPe.out]
       exact⟨_,rfl,SpotIs.below ⟨sb,so,rfl,HS1.out,HS2.out⟩ ((zx _ _).alloc (zq _) _),HK2.out.alloc _⟩
     |ok r=>
      obtain⟨⟨nd,n'⟩,l',p'⟩:=r
      obtain⟨rfl,hq1,hq2,hq3,hq4⟩:=rdO_got hro (by omega) hd hnj
      rw[hro]at HI hrd
      simp only at hrd
      have HRd:=hid hrd
      have HPos:=hid hpos
      unfold InsP insC at HI
      have HC2:(((x:Int)==5)=true/\mayE=false)\/(((x:Int)==5)=false/\mayE=true)\/(((x:Int)==5)=false/\mayE=false):=by rcases HCs with h|h;exact .inl h;cases mayE;exact .inr (.inr ⟨h,rfl⟩);exact .inr (.inl ⟨h,rfl⟩)
      clear hro hrd HCs hpos
      have fin:∀(w1 w2 w3:World) (v3:Value) (pl:Pl) (o:Obj),Kx (Only R) wr w1->Kx (Only R) w1 w2->NewN (Win w1.heap.size w2) w2 w2.heap.size ⟨nd,pl⟩->Rdr R w2 A c bs p' n'->OwnK w.heap.size w2 w3 59 9 v3 (ins.map In.cells++[(insC nd pl).toList])->
        (∀m,m<(w2.alloc o).heap.size->u9.ownBlock≠some m->w3.heap[m]? =(w2.alloc o).heap[m]?/\v3.ownBlock≠some m)->(w2.alloc o).heap.size<=w3.heap.size->LsL R w A c bs fuel depth n p mayE v3 w3/\bs.length-posOf R w3<bs.length-posOf R wr:=λw1 w2 w3 v3 pl o hk1 hk2 nn hr2 ho3 hkp hs3=>by
       have hk12:=hk1.trans hk2
       have hsz3:w2.heap.size<w3.heap.size:=zj (by simp) hs3
       have hb3:∀m,m<w2.heap.size->u9.ownBlock≠some m->w3.heap[m]? =w2.heap[m]?/\v3.ownBlock≠some m:=λm hm hv=>by
        obtain⟨e1,e2⟩:=hkp m (by simp;omega) hv
        exact⟨e1.trans (Below.heap_alloc _ _ _ hm),e2⟩
       have how:∀g,u9.ownBlock=some g->w.heap.size<=g/\g<wr.heap.size:=λg hg=>HOj.out.own_lt hg
       have hkx:Kx (λb=>u9.ownBlock=some b) w2 w3:=⟨ho3.below.os,ho3.below.tape,ho3.below.output,xh hsz3,λb hb hm=>(hb3 b hb hm).1⟩
       have hr3:Rdr R w3 A c bs p' n':=hr2.kx hkx (λe=>by have:=(how R e).1;omega) (λb hb=>by have:=(how b hb).1;omega)
       refine⟨⟨ins++[⟨nd,pl⟩],p',n',f',by rw[HRd.out,qd];rfl,by omega,by omega,hq4,by simp;omega,hr3,(HKj.out.trans hk12).trans' hkx (λb hb=>.inr (how b hb).1),by rw[qd];exact ho3.self,λy hy=>?_⟩,by rw[hr3.pos,HPos.out];omega⟩
       have hs12:=hk12.size
       rcases List.mem_append.1 hy with hy|hy
       ·
        refine(HNew.out y hy).move (agr_of_heap λb hb=>?_) (λb hb=>⟨hb.1,by have:=hb.2.1;omega,(hb3 b (by have:=hb.2.1;omega) hb.2.2).2⟩) (by omega)
        rw[(hb3 b (by have:=hb.2.1;omega) hb.2.2).1,hk12.block b hb.2.1 (by have:=hb.1;simp;omega)]
       ·
        simp at hy
        subst hy
        have hown:∀b,w1.heap.size<=b->u9.ownBlock≠some b:=λb hb e=>by have:=(how b e).2;have:=hk1.size;omega
        refine nn.move (agr_of_heap λb hb=>?_) (λb hb=>⟨by have:=hb.1;have:=hk1.size;omega,by have:=hb.2;omega,(hb3 b hb.2 (hown b hb.1)).2⟩) (by omega)
        rw[(hb3 b hb.2 (hown b hb.1)).1]
      have FIN:=hid fin
      clear fin
      rcases HC2 with⟨t5,rfl⟩|⟨t5,rfl⟩|⟨t5,rfl⟩
      all_goals
       go_wp2_with(first
        |(go_at_call 269;(with_reducible refine HPk.out.mono ?_);rintro e w1 ⟨rfl,nq,hw1⟩;have HR1:Hid (Rdr R w1 A c bs pj nj):=hid (by rw[hw1];exact HRj.out.drewN nq);have HK1:Hid (Kx (Only R) wr w1):=hid (by rw[hw1];exact Kx.refl_.drewN nq);clear hw1)
        |(go_at_call 270;(with_reducible refine(HI.out _ HR1.out).mono ?_);rintro e w2 ⟨pl,rfl,nn,hr2,hk2⟩;have HNn:=hid nn;have HR2:=hid hr2;have HK2:=hid hk2;have HO2:=hid (HOj.out.kx (HK1.out.trans hk2) hRw);clear nn hr2 hk2)
        |(at_builtin;refine wpList_pushK rfl (.tmp 50) (.tmp 52) _ rfl 120 underlying53 elem_ins (by decide) _ _ _ rfl (HO2.out.alloc _) rfl (by simp) rfl (In.one ⟨nd,pl⟩) (by simp only[zd];omega) (by simp only[zd];unfold maxLen;omega) ?_;intro v3 w3 ho3 hk3 hs3;have HF:=hid (FIN.out w1 w2 w3 v3 pl _ HK1.out HK2.out HNn.out HR2.out ho3 hk3 hs3);clear ho3 hk3 hs3))
       go_roundw
       case rel=>first|exact HF.out.1|((repeat apply Exists.intro);exact⟨HF.out.1,rfl⟩)
       case measure=>exact HF.out.2
end Go.Proofs.YteoijlfipmaoeaaGreatDoor
namespace Go.Proofs.YteoijlfipmaoeaaGreatDoor.Trx
theorem rdE_fin(l:List UInt8)(p:Nat):rdE l p=match finE false (rdL (l.length+1) 0 0 l p)with
  |.error e=>.error e
  |.ok ((f,_,_),l',p')=>.ok (f,l',p'):=by
 unfold rdE
 rcases rdL (l.length+1) 0 0 l p with e|⟨⟨f,last,n⟩,l',p'⟩
 ·rfl
 ·
  simp only[finE]
  by_cases h:last=5
  ·simp[h]
  ·simp[h]
end Go.Proofs.YteoijlfipmaoeaaGreatDoor.Trx
namespace Go.Proofs.YteoijlfipmaoeaaGreatDoor
open Lib (hid)
open Go.RowKit Trx
open Go.Proofs.Tryz
def GetP(w:World):Rs Fo->Ending->World->Prop
 |.error er,e,w'=>∃v,e=.returned (.tuple #[.slice none 0 0,.int .i64 0,v])/\SpotIs w' v er.2 er.1/\Below w.heap.size w w'
 |.ok (f,_,p'),e,w'=>∃A' c',e=.returned (.tuple #[.slice A' (len f) c',.int .i64 p',.nilIface])/\len f<=c'/\c'<=maxLen/\NewF (Win w.heap.size w') w' w'.heap.size A' f/\Below w.heap.size w w'
theorem Rdr.new{w:World}{A:Option Addr}{c:Nat}{bs:List UInt8}{p:Nat}(hN:Nam w)(hs:Sl w w.heap.size A (u8s bs))(hc:bs.length<=c)(hm:c<=maxLen)(hp:p<=bs.length)(t:TypeId):
  Rdr w.heap.size (w.alloc (.cells #[.slice A bs.length c,.int .i64 p,.int .i64 0] t)) A c bs p 0:=
 ⟨zv _ _ _ _ rfl,zv _ _ _ _ rfl,zv _ _ _ _ rfl,λi=>zw _ _ _ _ rfl,hs.below ((zx _ _).alloc (zq _) _),hc,hm,hp,⟨w,zq _,hN,(zx _ _).alloc (zq _) _⟩⟩
theorem Get_any(A:Option Addr)(c:Nat)(bs:List UInt8)(p:Nat)(w:World)(hN:Nam w)(hs:Sl w w.heap.size A (u8s bs))(hc:bs.length<=c)(hm:c<=maxLen)(hp:p<=bs.length):
  Calls prog 241 #[.slice A bs.length c,.int .i64 p] w (GetP w (rdE (bs.drop p) p)):=by
 have HR:=hid (Rdr.new hN hs hc hm hp 294)
 have hm':=hm
 unfold maxLen at hm'
 have t0:¬((p:Int)<0):=by omega
 have t1:¬((bs.length:Int)<(p:Int)):=by omega
 have hpI:(p:Int)<=bs.length:=by omega
 rw[rdE_fin]
 have hL:=list_any ((bs.drop p).length+1) w.heap.size (w.alloc (.cells #[.slice A bs.length c,.int .i64 p,.int .i64 0] 294)) A c bs p 0 0 false HR.out (by rw[qc];omega) (by omega) (by omega)
 change Calls prog 255 #[.pointer (some ⟨w.heap.size,0,none⟩),.int .i64 0,.bool false] _ _ at hL
 clear hN hs
 cases hr:finE false (rdL ((bs.drop p).length+1) 0 0 (bs.drop p) p)with
 |error er=>
  rw[hr]at hL
  unfold ListP at hL
  have HL:=hid hL
  clear hL hr HR
  unfold GetP
  go_enter func241,ntmps241
  go_wp2_with(first|(go_at_call 255;(with_reducible refine HL.out.mono ?_);rintro e w1 ⟨v,rfl,⟨sb,so,rfl,hs1,hs2⟩,hk⟩;have HS1:=hid hs1;have HS2:=hid hs2;have HK:=hid hk;clear hs1 hs2 hk))
  refine bodyPost_ret (results_tmp3 rfl _ _ _) rfl ?_
  exact⟨_,rfl,⟨sb,so,rfl,HS1.out,HS2.out⟩,((zx _ _).alloc (zq _) _).trans (HK.out.below (by simp) (λb hb=>Nat.le_of_eq hb.symm))⟩
 |ok r=>
  obtain⟨⟨f,last,n'⟩,l',p'⟩:=r
  rw[hr]at hL
  unfold ListP at hL
  have HL:=hid hL
  clear hL hr HR
  unfold GetP
  go_enter func241,ntmps241
  go_wp2_with(first|(go_at_call 255;(with_reducible refine HL.out.mono ?_);rintro e w1 ⟨A',c',rfl,l1,m1,nf,hr1,hk⟩;have d1:=hr1.c1;have hlt:=hr1.lt;have HNf:=hid nf;have HK:=hid hk;clear nf hr1 hk))
  refine wp_region_held_drew (S:=λw'=>w'.cell? ⟨w.heap.size,1,none⟩=some (.int .i64 p')) (by kernel_rfl) d1 (λhHeld=>?_)
  refine rtk 0 33 ?_
  refine rtk 1 34 ?_
  refine rtk 2 35 ?_
  refine rtk 3 36 ?_
  refine rtk 4 37 ?_
  refine rtk 5 4 ?_
  refine rtk 6 5 ?_
  refine rtk 7 6 ?_
  refine wpAnyH_done (by kernel_rfl) ?_ _
  go_wp2_with fail
  refine bodyPost_ret (results_tmp3 rfl _ _ _) rfl ?_
  refine⟨A',c',rfl,l1,m1,?_,(((zx _ _).alloc (zq _) _).trans (HK.out.below (by simp) (λb hb=>Nat.le_of_eq hb.symm))).drew⟩
  exact HNf.out.move (λ_ _ _=>rfl) (λb hb=>⟨by have:=hb.1;simp at this;omega,hb.2⟩) (zq _)
end Go.Proofs.YteoijlfipmaoeaaGreatDoor
