import Derived.Test.YteoijlfipmaoeaaGreatDoorPJ16
import Derived.Test.YteoijlfipmaoeaaGreatDoorPJ29
import Derived.Laws.OwnMore
set_option linter.unusedVariables false
set_option linter.unusedSimpArgs false
set_option maxRecDepth 100000
set_option maxHeartbeats 16000000
namespace Go.Proofs.YteoijlfipmaoeaaGreatDoor
open Lib (hid)
open Go.RowKit Trx
open Go.Proofs.Tryz
theorem imported_any{W:Nat}{w0 w:World}{v u:Value}{bs:List UInt8}{bad:Bool}(x:Im)(hx:x.ok)(h:Wr W w0 w v u bs bad)(hL:bs.length+(Bin.cat (Bin.pKind x.kd) (Bin.pImp x)).1.length<=100000000):
  Calls prog 81 #[pW W,.agg #[.string x.md,.string x.nm,.int .i64 x.kd,.int .i64 x.ty,.bool x.mu,.int .i64 x.lm.mn,.int .i64 x.lm.mx,.bool x.lm.hs]] w (WrP W w0 w v u bs bad (Bin.cat (Bin.pKind x.kd) (Bin.pImp x))):=by
 obtain⟨md,nm,kd,ty,mu,⟨mn,mx,hs⟩⟩:=x
 have ez:decide ((⟨mn,mx,hs⟩:Lm)=Bin.zLm)=decide (mn=0/\mx=0/\hs=false):=by simp[Bin.zLm]
 unfold Bin.pImp at hL⊢
 dsimp only at hL⊢
 by_cases h0:kd=0
 ·
  subst h0
  rw[if_pos rfl,ez]at hL⊢
  exact imported_0 md nm ty mn mx mu hs hx.ty hx.lm.mn hx.lm.mx h hL
 rw[if_neg h0]at hL⊢
 by_cases h1:kd=1
 ·
  subst h1
  rw[if_pos rfl]at hL⊢
  exact imported_1 md nm ty mn mx mu hs hx.ty hx.lm.mn hx.lm.mx h hL
 rw[if_neg h1]at hL⊢
 by_cases h2:kd=2
 ·
  subst h2
  rw[if_pos rfl]at hL⊢
  exact imported_2 md nm ty mn mx mu hs hx.ty hx.lm.mn hx.lm.mx h hL
 rw[if_neg h2]at hL⊢
 by_cases h3:kd=3
 ·
  subst h3
  rw[if_pos rfl,ez]at hL⊢
  exact imported_3 md nm ty mn mx mu hs hx.ty hx.lm.mn hx.lm.mx h hL
 rw[if_neg h3]at hL⊢
 have hk:Bin.pKind kd=([b8 kd],false):=by
  unfold Bin.pKind
  have:(decide (0<=kd)&&decide (kd<=3))=false:=by simp;omega
  rw[this]
 have e:Bin.cat (Bin.pKind kd) ([],decide (ty=0)&&!mu&&decide (mn=0/\mx=0/\hs=false))=Bin.cat (Bin.pKind kd) ([],false):=by rw[hk];simp[Bin.cat]
 have:=imported_n md nm kd ty mn mx mu hs hx.ty hx.lm.mn hx.lm.mx hx.kd (by simpa using h0) (by simpa using h1) (by simpa using h2) (by simpa using h3) h (by rw[e];exact hL)
 rw[e]at this
 exact this
theorem In.rd{w:World}{i:In}{t:TypeId}(h:i.ok w w.heap.size):RdS (w.alloc (.cells (insC i.n i.p) t)) (w.alloc (.cells (insC i.n i.p) t)).heap.size (some ⟨w.heap.size,0,none⟩) (ofN [i.n]):=by
 intro _
 have hb:Below w.heap.size w (w.alloc (.cells (insC i.n i.p) t)):=(zx _ _).alloc (zq _) _
 refine⟨_,_,rfl,RdF.mk λj n hj=>?_⟩
 rw[nds_ofN]at hj
 cases j with
 |succ j=>simp at hj
 |zero=>
  simp at hj
  subst hj
  refine⟨i.p,?_,λk hk=>?_,h.nd.later hb⟩
  ·simp
  ·
   rw[zv _ _ _ _ rfl]
   simp
theorem wexpr1_any{W:Nat}{w0 w:World}{v u:Value}{bs:List UInt8}{bad:Bool}(i:In)(hN:Nam w0)(hi:i.ok w0 w0.heap.size)(hwt:wt (ofN [i.n])<=2200000)(h:Wr W w0 w v u bs bad)(hL:bs.length+(Bin.pOne i.n).1.length<=100000000):
  Calls prog 94 #[pW W,.slice (some ⟨w.heap.size,0,none⟩) 1 1] (w.alloc (.cells #[.int .i64 i.n.op,.int .i64 i.n.a,.int .i64 i.n.b,.int .u64 i.n.v,.int .i64 i.n.t,.slice i.p.AL i.n.L.length i.p.cL,.slice i.p.Ab (len i.n.body) i.p.cb,.slice i.p.Ae (len i.n.els) i.p.ce,.bool i.n.he] 59))
   (WrP W w0 (w.alloc (.cells #[.int .i64 i.n.op,.int .i64 i.n.a,.int .i64 i.n.b,.int .u64 i.n.v,.int .i64 i.n.t,.slice i.p.AL i.n.L.length i.p.cL,.slice i.p.Ab (len i.n.body) i.p.cb,.slice i.p.Ae (len i.n.els) i.p.ce,.bool i.n.he] 59)) v u bs bad (Bin.pOne i.n)):=by
 have hr:=In.rd (t:=59) (hi.keep h.below.size (Below.kp h.below))
 unfold insC at hr
 exact wexpr_any (ofN [i.n]) (some ⟨w.heap.size,0,none⟩) 1 hN hr (by rw[len_ofN];simp[maxLen]) hwt (h.alloc _) hL
theorem nums_any{W:Nat}{w0 w:World}{v u:Value}{bs:List UInt8}{bad:Bool}{B0:Nat}(l:IL)(hl:l.ok w0 w0.heap.size)(hs:l.zs.length<=64)(h:Wr W w0 w v u bs bad)(hB:Bx W w v B0 [pW W])(hL:bs.length+(Bin.pList Bin.pNum l.zs).1.length<=100000000):
  Calls prog 102 #[pW W,.slice l.A l.zs.length l.c,.func (.func 103) #[] #[.pointer (some ⟨B0,0,none⟩)]] w (WrP W w0 w v u bs bad (Bin.pList Bin.pNum l.zs)):=
 wlist_any .Ns Bin.pNum l.zs l.A l.c (by omega) h hB (by rw[<-n64_rows];exact h.lst hl.sl.ones) hL (λy hy w2 v2 bs2 bad2 hw hb hl2=>nums1_any y (hl.inI y hy) hw hb hl2)
theorem declTy_any{W:Nat}{w0 w:World}{v u:Value}{bs:List UInt8}{bad:Bool}{B0:Nat}(x:Ty)(hx:x.ok w0 w0.heap.size)(hs:Bin.sFt (kTy x))(h:Wr W w0 w v u bs bad)(hB:Bx W w v B0 [pW W])(hL:bs.length+(Bin.pFt (kTy x)).1.length<=100000000):
  Calls prog 75 #[.agg #[.slice x.p.A x.p.zs.length x.p.c,.slice x.r.A x.r.zs.length x.r.c],.pointer (some ⟨B0,0,none⟩)] w (WrP W w0 w v u bs bad (Bin.pFt (kTy x))):=by
 (try simp only[Bin.pFt,kTy,Bin.cat,zz]at hL)
 have HL:=hid hL
 have HC0:=hid (λw' v' bs' bad' (h':Wr W w0 w' v' u bs' bad') hl'=>byte_any 96 96 rfl h' hl')
 have HC1:=hid (λw' v' bs' bad' (h':Wr W w0 w' v' u bs' bad') hl'=>wtypes_any x.p.zs x.p.A x.p.c hx.p.inI (by have:x.p.zs.length<=64:=hs.1;omega) h' (h'.lst hx.p.sl.ones) hl')
 have HC2:=hid (λw' v' bs' bad' (h':Wr W w0 w' v' u bs' bad') hl'=>wtypes_any x.r.zs x.r.A x.r.c hx.r.inI (by have:x.r.zs.length<=64:=hs.2;omega) h' (h'.lst hx.r.sl.ones) hl')
 have HS0:=hid (Wz.new h (λ_=>hB) [.slice x.p.A x.p.zs.length x.p.c,.slice x.r.A x.r.zs.length x.r.c] 73)
 have qb:=hB.cell 0 _ rfl
 have qn:=hB.lt
 clear h hL hB
 unfold WrP at HC0 HC1 HC2⊢
 go_enter func75,ntmps75
 go_wp2_with(first
  |(go_at_call 76;(with_reducible refine(HC0.out _ _ _ _ HS0.out.wr (by have:=HL.out;(try simp only[Bin.cat,zz]);omega)).mono ?_);rintro e w1 ⟨rfl,v1,hw,hk⟩;have HS1:=hid (HS0.out.step hw hk);have x1_0:=HS1.out.x.c 0 rfl;have x1_1:=HS1.out.x.c 1 rfl;have b1:=HS1.out.b.c 0 rfl;clear hw hk)
  |(go_at_call 77;(with_reducible refine(HC1.out _ _ _ _ HS1.out.wr (by have:=HL.out;(try simp only[Bin.cat,zz]);omega)).mono ?_);rintro e w2 ⟨rfl,v2,hw,hk⟩;have HS2:=hid (HS1.out.step hw hk);have x2_0:=HS2.out.x.c 0 rfl;have x2_1:=HS2.out.x.c 1 rfl;have b2:=HS2.out.b.c 0 rfl;clear hw hk)
  |(go_at_call 77;(with_reducible refine(HC2.out _ _ _ _ HS2.out.wr (by have:=HL.out;(try simp only[Bin.cat,zz]);omega)).mono ?_);rintro e w3 ⟨rfl,v3,hw,hk⟩;have HS3:=hid (HS2.out.step hw hk);have b3:=HS3.out.b.c 0 rfl;clear hw hk))
 go_end0
 exact⟨rfl,v3,HS3.out.wr.eq (by simp[Bin.pFt,kTy,Bin.pByte,Bin.cat]) (by cases bad<;>simp[Bin.pFt,kTy,Bin.pByte,zl,zh,Bin.cat,Bin.pByte,Bin.pFlag,jz,qo]),HS3.out.k⟩
theorem declIm_any{W:Nat}{w0 w:World}{v u:Value}{bs:List UInt8}{bad:Bool}{B0:Nat}(x:Im)(hx:x.ok)(hT:U8T w0)(h:Wr W w0 w v u bs bad)(hB:Bx W w v B0 [pW W])(hL:bs.length+(Bin.pIm x).1.length<=100000000):
  Calls prog 79 #[.agg #[.string x.md,.string x.nm,.int .i64 x.kd,.int .i64 x.ty,.bool x.mu,.int .i64 x.lm.mn,.int .i64 x.lm.mx,.bool x.lm.hs],.pointer (some ⟨B0,0,none⟩)] w (WrP W w0 w v u bs bad (Bin.pIm x)):=by
 (try simp only[Bin.pIm,Bin.cat,zz]at hL)
 have HL:=hid hL
 have HC0:=hid (λw' v' bs' bad' (h':Wr W w0 w' v' u bs' bad') hl'=>wname_any x.md hT h' hl')
 have HC1:=hid (λw' v' bs' bad' (h':Wr W w0 w' v' u bs' bad') hl'=>wname_any x.nm hT h' hl')
 have HC2:=hid (λw' v' bs' bad' (h':Wr W w0 w' v' u bs' bad') hl'=>imported_any x hx h' hl')
 have HS0:=hid (Wz.new h (λ_=>hB) [.string x.md,.string x.nm,.int .i64 x.kd,.int .i64 x.ty,.bool x.mu,.int .i64 x.lm.mn,.int .i64 x.lm.mx,.bool x.lm.hs] 77)
 have qb:=hB.cell 0 _ rfl
 have qn:=hB.lt
 clear h hL hB
 unfold WrP at HC0 HC1 HC2⊢
 go_enter func79,ntmps79
 go_wp2_with(first
  |(go_at_call 80;(with_reducible refine(HC0.out _ _ _ _ HS0.out.wr (by have:=HL.out;(try simp only[Bin.cat,zz]);omega)).mono ?_);rintro e w1 ⟨rfl,v1,hw,hk⟩;have HS1:=hid (HS0.out.step hw hk);have x1_0:=HS1.out.x.c 0 rfl;have x1_1:=HS1.out.x.c 1 rfl;have x1_2:=HS1.out.x.c 2 rfl;have x1_3:=HS1.out.x.c 3 rfl;have x1_4:=HS1.out.x.c 4 rfl;have x1_5:=HS1.out.x.c 5 rfl;have x1_6:=HS1.out.x.c 6 rfl;have x1_7:=HS1.out.x.c 7 rfl;have b1:=HS1.out.b.c 0 rfl;clear hw hk)
  |(go_at_call 80;(with_reducible refine(HC1.out _ _ _ _ HS1.out.wr (by have:=HL.out;(try simp only[Bin.cat,zz]);omega)).mono ?_);rintro e w2 ⟨rfl,v2,hw,hk⟩;have HS2:=hid (HS1.out.step hw hk);have x2_0:=HS2.out.x.c 0 rfl;have x2_1:=HS2.out.x.c 1 rfl;have x2_2:=HS2.out.x.c 2 rfl;have x2_3:=HS2.out.x.c 3 rfl;have x2_4:=HS2.out.x.c 4 rfl;have x2_5:=HS2.out.x.c 5 rfl;have x2_6:=HS2.out.x.c 6 rfl;have x2_7:=HS2.out.x.c 7 rfl;have b2:=HS2.out.b.c 0 rfl;clear hw hk)
  |(go_at_call 81;(with_reducible refine(HC2.out _ _ _ _ HS2.out.wr (by have:=HL.out;(try simp only[Bin.cat,zz]);omega)).mono ?_);rintro e w3 ⟨rfl,v3,hw,hk⟩;have HS3:=hid (HS2.out.step hw hk);have b3:=HS3.out.b.c 0 rfl;clear hw hk))
 go_end0
 exact⟨rfl,v3,HS3.out.wr.eq (by simp[Bin.pIm,Bin.cat]) (by cases bad<;>simp[Bin.pIm,Bin.cat,Bin.pByte,Bin.pFlag,jz,qo]),HS3.out.k⟩
theorem declFt_any{W:Nat}{w0 w:World}{v u:Value}{bs:List UInt8}{bad:Bool}{B0:Nat}(x:Fn)(hx:x.ok w0 w0.heap.size)(h:Wr W w0 w v u bs bad)(hB:Bx W w v B0 [pW W])(hL:bs.length+(Bin.pNum x.ty).1.length<=100000000):
  Calls prog 83 #[.agg #[.int .i64 x.ty,.slice x.lo.A x.lo.zs.length x.lo.c,.slice x.bo.A (len x.bo.f) x.bo.c],.pointer (some ⟨B0,0,none⟩)] w (WrP W w0 w v u bs bad (Bin.pNum x.ty)):=by
 (try simp only[Bin.cat,zz]at hL)
 have HL:=hid hL
 have HC0:=hid (λw' v' bs' bad' (h':Wr W w0 w' v' u bs' bad') hl'=>number_any x.ty hx.ty h' hl')
 have HS0:=hid (Wz.new h (λ_=>hB) [.int .i64 x.ty,.slice x.lo.A x.lo.zs.length x.lo.c,.slice x.bo.A (len x.bo.f) x.bo.c] 55)
 have qb:=hB.cell 0 _ rfl
 have qn:=hB.lt
 clear h hL hB
 unfold WrP at HC0⊢
 go_enter func83,ntmps83
 go_wp2_with(first
  |(go_at_call 84;(with_reducible refine(HC0.out _ _ _ _ HS0.out.wr (by have:=HL.out;(try simp only[Bin.cat,zz]);omega)).mono ?_);rintro e w1 ⟨rfl,v1,hw,hk⟩;have HS1:=hid (HS0.out.step hw hk);have b1:=HS1.out.b.c 0 rfl;clear hw hk))
 go_end0
 exact⟨rfl,v1,HS1.out.wr.eq (by simp[Bin.cat]) (by cases bad<;>simp[Bin.cat,Bin.pByte,Bin.pFlag,jz,qo]),HS1.out.k⟩
theorem declTa_any{W:Nat}{w0 w:World}{v u:Value}{bs:List UInt8}{bad:Bool}{B0:Nat}(x:Lm)(hx:x.ok)(h:Wr W w0 w v u bs bad)(hB:Bx W w v B0 [pW W])(hL:bs.length+(Bin.pTab x).1.length<=100000000):
  Calls prog 86 #[.agg #[.int .i64 x.mn,.int .i64 x.mx,.bool x.hs],.pointer (some ⟨B0,0,none⟩)] w (WrP W w0 w v u bs bad (Bin.pTab x)):=by
 (try simp only[Bin.cat,zz]at hL)
 have HL:=hid hL
 have HC0:=hid (λw' v' bs' bad' (h':Wr W w0 w' v' u bs' bad') hl'=>table_any x hx h' hl')
 have HS0:=hid (Wz.new h (λ_=>hB) [.int .i64 x.mn,.int .i64 x.mx,.bool x.hs] 75)
 have qb:=hB.cell 0 _ rfl
 have qn:=hB.lt
 clear h hL hB
 unfold WrP at HC0⊢
 go_enter func86,ntmps86
 go_wp2_with(first
  |(go_at_call 87;(with_reducible refine(HC0.out _ _ _ _ HS0.out.wr (by have:=HL.out;(try simp only[Bin.cat,zz]);omega)).mono ?_);rintro e w1 ⟨rfl,v1,hw,hk⟩;have HS1:=hid (HS0.out.step hw hk);have b1:=HS1.out.b.c 0 rfl;clear hw hk))
 go_end0
 exact⟨rfl,v1,HS1.out.wr.eq (by simp[Bin.cat]) (by cases bad<;>simp[Bin.cat,Bin.pByte,Bin.pFlag,jz,qo]),HS1.out.k⟩
theorem declMe_any{W:Nat}{w0 w:World}{v u:Value}{bs:List UInt8}{bad:Bool}{B0:Nat}(x:Lm)(hx:x.ok)(h:Wr W w0 w v u bs bad)(hB:Bx W w v B0 [pW W])(hL:bs.length+(Bin.pLim x).1.length<=100000000):
  Calls prog 88 #[.agg #[.int .i64 x.mn,.int .i64 x.mx,.bool x.hs],.pointer (some ⟨B0,0,none⟩)] w (WrP W w0 w v u bs bad (Bin.pLim x)):=by
 (try simp only[Bin.cat,zz]at hL)
 have HL:=hid hL
 have HC0:=hid (λw' v' bs' bad' (h':Wr W w0 w' v' u bs' bad') hl'=>limits_any x hx h' hl')
 have HS0:=hid (Wz.new h (λ_=>hB) [.int .i64 x.mn,.int .i64 x.mx,.bool x.hs] 75)
 have qb:=hB.cell 0 _ rfl
 have qn:=hB.lt
 clear h hL hB
 unfold WrP at HC0⊢
 go_enter func88,ntmps88
 go_wp2_with(first
  |(go_at_call 89;(with_reducible refine(HC0.out _ _ _ _ HS0.out.wr (by have:=HL.out;(try simp only[Bin.cat,zz]);omega)).mono ?_);rintro e w1 ⟨rfl,v1,hw,hk⟩;have HS1:=hid (HS0.out.step hw hk);have b1:=HS1.out.b.c 0 rfl;clear hw hk))
 go_end0
 exact⟨rfl,v1,HS1.out.wr.eq (by simp[Bin.cat]) (by cases bad<;>simp[Bin.cat,Bin.pByte,Bin.pFlag,jz,qo]),HS1.out.k⟩
theorem declGl_any{W:Nat}{w0 w:World}{v u:Value}{bs:List UInt8}{bad:Bool}{B0:Nat}(x:Gl)(hx:x.ok w0 w0.heap.size)(hN:Nam w0)(hwt:wt (ofN [x.i.n])<=2200000)(h:Wr W w0 w v u bs bad)(hB:Bx W w v B0 [pW W])(hL:bs.length+(Bin.pGl (kGl x)).1.length<=100000000):
  Calls prog 91 #[.agg #[.int .i64 x.ty,.bool x.mu,.int .i64 x.i.n.op,.int .i64 x.i.n.a,.int .i64 x.i.n.b,.int .u64 x.i.n.v,.int .i64 x.i.n.t,.slice x.i.p.AL x.i.n.L.length x.i.p.cL,.slice x.i.p.Ab (len x.i.n.body) x.i.p.cb,.slice x.i.p.Ae (len x.i.n.els) x.i.p.ce,.bool x.i.n.he],.pointer (some ⟨B0,0,none⟩)] w (WrP W w0 w v u bs bad (Bin.pGl (kGl x))):=by
 (try simp only[Bin.pGl,kGl,Bin.cat,zz]at hL)
 have HL:=hid hL
 have HC0:=hid (λw' v' bs' bad' (h':Wr W w0 w' v' u bs' bad') hl'=>valueType_any x.ty hx.ty h' hl')
 have HC1:=hid (λw' v' bs' bad' (h':Wr W w0 w' v' u bs' bad') hl'=>flag_any x.mu h' hl')
 have HC2:=hid (λw' v' bs' bad' (h':Wr W w0 w' v' u bs' bad') hl'=>wexpr1_any x.i hN hx.i hwt h' hl')
 have HS0:=hid (Wz.new h (λ_=>hB) [.int .i64 x.ty,.bool x.mu,.int .i64 x.i.n.op,.int .i64 x.i.n.a,.int .i64 x.i.n.b,.int .u64 x.i.n.v,.int .i64 x.i.n.t,.slice x.i.p.AL x.i.n.L.length x.i.p.cL,.slice x.i.p.Ab (len x.i.n.body) x.i.p.cb,.slice x.i.p.Ae (len x.i.n.els) x.i.p.ce,.bool x.i.n.he] 61)
 have qb:=hB.cell 0 _ rfl
 have qn:=hB.lt
 clear h hL hB
 unfold WrP at HC0 HC1 HC2⊢
 go_enter func91,ntmps91
 go_wp2_with(first
  |(go_at_call 92;(with_reducible refine(HC0.out _ _ _ _ HS0.out.wr (by have:=HL.out;(try simp only[Bin.cat,zz]);omega)).mono ?_);rintro e w1 ⟨rfl,v1,hw,hk⟩;have HS1:=hid (HS0.out.step hw hk);have x1_0:=HS1.out.x.c 0 rfl;have x1_1:=HS1.out.x.c 1 rfl;have x1_2:=HS1.out.x.c 2 rfl;have x1_3:=HS1.out.x.c 3 rfl;have x1_4:=HS1.out.x.c 4 rfl;have x1_5:=HS1.out.x.c 5 rfl;have x1_6:=HS1.out.x.c 6 rfl;have x1_7:=HS1.out.x.c 7 rfl;have x1_8:=HS1.out.x.c 8 rfl;have x1_9:=HS1.out.x.c 9 rfl;have x1_10:=HS1.out.x.c 10 rfl;have b1:=HS1.out.b.c 0 rfl;clear hw hk)
  |(go_at_call 93;(with_reducible refine(HC1.out _ _ _ _ HS1.out.wr (by have:=HL.out;(try simp only[Bin.cat,zz]);omega)).mono ?_);rintro e w2 ⟨rfl,v2,hw,hk⟩;have HS2:=hid (HS1.out.step hw hk);have x2_0:=HS2.out.x.c 0 rfl;have x2_1:=HS2.out.x.c 1 rfl;have x2_2:=HS2.out.x.c 2 rfl;have x2_3:=HS2.out.x.c 3 rfl;have x2_4:=HS2.out.x.c 4 rfl;have x2_5:=HS2.out.x.c 5 rfl;have x2_6:=HS2.out.x.c 6 rfl;have x2_7:=HS2.out.x.c 7 rfl;have x2_8:=HS2.out.x.c 8 rfl;have x2_9:=HS2.out.x.c 9 rfl;have x2_10:=HS2.out.x.c 10 rfl;have b2:=HS2.out.b.c 0 rfl;clear hw hk)
  |(go_at_call 94;(with_reducible refine(HC2.out _ _ _ _ HS2.out.wr (by have:=HL.out;(try simp only[Bin.cat,zz]);omega)).mono ?_);rintro e w3 ⟨rfl,v3,hw,hk⟩;have HS3:=hid ((HS2.out.alloc _).step hw hk);have b3:=HS3.out.b.c 0 rfl;clear hw hk))
 go_end0
 exact⟨rfl,v3,HS3.out.wr.eq (by simp[Bin.pGl,kGl,Bin.cat]) (by cases bad<;>simp[Bin.pGl,kGl,Bin.pFlag,zl,zh,Bin.cat,Bin.pByte,Bin.pFlag,jz,qo]),HS3.out.k⟩
theorem declEx_any{W:Nat}{w0 w:World}{v u:Value}{bs:List UInt8}{bad:Bool}{B0:Nat}(x:Ex)(hx:x.ok)(hT:U8T w0)(h:Wr W w0 w v u bs bad)(hB:Bx W w v B0 [pW W])(hL:bs.length+(Bin.pEx x).1.length<=100000000):
  Calls prog 96 #[.agg #[.string x.nm,.int .i64 x.kd,.int .i64 x.ix],.pointer (some ⟨B0,0,none⟩)] w (WrP W w0 w v u bs bad (Bin.pEx x)):=by
 (try simp only[Bin.pEx,Bin.cat,zz]at hL)
 have HL:=hid hL
 have HC0:=hid (λw' v' bs' bad' (h':Wr W w0 w' v' u bs' bad') hl'=>wname_any x.nm hT h' hl')
 have HC1:=hid (λw' v' bs' bad' (h':Wr W w0 w' v' u bs' bad') hl'=>kind_any x.kd hx.kd h' hl')
 have HC2:=hid (λw' v' bs' bad' (h':Wr W w0 w' v' u bs' bad') hl'=>number_any x.ix hx.ix h' hl')
 have HS0:=hid (Wz.new h (λ_=>hB) [.string x.nm,.int .i64 x.kd,.int .i64 x.ix] 79)
 have qb:=hB.cell 0 _ rfl
 have qn:=hB.lt
 clear h hL hB
 unfold WrP at HC0 HC1 HC2⊢
 go_enter func96,ntmps96
 go_wp2_with(first
  |(go_at_call 80;(with_reducible refine(HC0.out _ _ _ _ HS0.out.wr (by have:=HL.out;(try simp only[Bin.cat,zz]);omega)).mono ?_);rintro e w1 ⟨rfl,v1,hw,hk⟩;have HS1:=hid (HS0.out.step hw hk);have x1_0:=HS1.out.x.c 0 rfl;have x1_1:=HS1.out.x.c 1 rfl;have x1_2:=HS1.out.x.c 2 rfl;have b1:=HS1.out.b.c 0 rfl;clear hw hk)
  |(go_at_call 97;(with_reducible refine(HC1.out _ _ _ _ HS1.out.wr (by have:=HL.out;(try simp only[Bin.cat,zz]);omega)).mono ?_);rintro e w2 ⟨rfl,v2,hw,hk⟩;have HS2:=hid (HS1.out.step hw hk);have x2_0:=HS2.out.x.c 0 rfl;have x2_1:=HS2.out.x.c 1 rfl;have x2_2:=HS2.out.x.c 2 rfl;have b2:=HS2.out.b.c 0 rfl;clear hw hk)
  |(go_at_call 84;(with_reducible refine(HC2.out _ _ _ _ HS2.out.wr (by have:=HL.out;(try simp only[Bin.cat,zz]);omega)).mono ?_);rintro e w3 ⟨rfl,v3,hw,hk⟩;have HS3:=hid (HS2.out.step hw hk);have b3:=HS3.out.b.c 0 rfl;clear hw hk))
 go_end0
 exact⟨rfl,v3,HS3.out.wr.eq (by simp[Bin.pEx,Bin.pKind,Bin.cat]) (by cases bad<;>simp[Bin.pEx,Bin.pKind,zl,zh,Bin.cat,Bin.pByte,Bin.pFlag,jz,qo]),HS3.out.k⟩
theorem declEl_any{W:Nat}{w0 w:World}{v u:Value}{bs:List UInt8}{bad:Bool}{B0:Nat}(x:El)(hx:x.ok w0 w0.heap.size)(hN:Nam w0)(hwt:wt (ofN [x.i.n])<=2200000)(hs:x.fs.zs.length<=64)(h:Wr W w0 w v u bs bad)(hB:Bx W w v B0 [pW W])(hL:bs.length+(Bin.pEl (kEl x)).1.length<=100000000):
  Calls prog 101 #[.agg #[.int .i64 x.i.n.op,.int .i64 x.i.n.a,.int .i64 x.i.n.b,.int .u64 x.i.n.v,.int .i64 x.i.n.t,.slice x.i.p.AL x.i.n.L.length x.i.p.cL,.slice x.i.p.Ab (len x.i.n.body) x.i.p.cb,.slice x.i.p.Ae (len x.i.n.els) x.i.p.ce,.bool x.i.n.he,.slice x.fs.A x.fs.zs.length x.fs.c],.pointer (some ⟨B0,0,none⟩)] w (WrP W w0 w v u bs bad (Bin.pEl (kEl x))):=by
 (try simp only[Bin.pEl,kEl,Bin.cat,zz]at hL)
 have HL:=hid hL
 have HC0:=hid (λw' v' bs' bad' (h':Wr W w0 w' v' u bs' bad') hl'=>number_any 0 (by unfold inI;omega) h' hl')
 have HC1:=hid (λw' v' bs' bad' (h':Wr W w0 w' v' u bs' bad') hl'=>wexpr1_any x.i hN hx.i hwt h' hl')
 have HC2:=hid (λw' v' bs' bad' (h':Wr W w0 w' v' u bs' bad') (hB:Bx W w' v' B0 [pW W]) hl'=>nums_any x.fs hx.fs hs h' hB hl')
 have HS0:=hid (Wz.new h (λ_=>hB) [.int .i64 x.i.n.op,.int .i64 x.i.n.a,.int .i64 x.i.n.b,.int .u64 x.i.n.v,.int .i64 x.i.n.t,.slice x.i.p.AL x.i.n.L.length x.i.p.cL,.slice x.i.p.Ab (len x.i.n.body) x.i.p.cb,.slice x.i.p.Ae (len x.i.n.els) x.i.p.ce,.bool x.i.n.he,.slice x.fs.A x.fs.zs.length x.fs.c] 63)
 have qb:=hB.cell 0 _ rfl
 have qn:=hB.lt
 clear h hL hB
 unfold WrP at HC0 HC1 HC2⊢
 go_enter func101,ntmps101
 go_wp2_with(first
  |(go_at_call 84;(with_reducible refine(HC0.out _ _ _ _ HS0.out.wr (by have:=HL.out;(try simp only[Bin.cat,zz]);omega)).mono ?_);rintro e w1 ⟨rfl,v1,hw,hk⟩;have HS1:=hid (HS0.out.step hw hk);have x1_0:=HS1.out.x.c 0 rfl;have x1_1:=HS1.out.x.c 1 rfl;have x1_2:=HS1.out.x.c 2 rfl;have x1_3:=HS1.out.x.c 3 rfl;have x1_4:=HS1.out.x.c 4 rfl;have x1_5:=HS1.out.x.c 5 rfl;have x1_6:=HS1.out.x.c 6 rfl;have x1_7:=HS1.out.x.c 7 rfl;have x1_8:=HS1.out.x.c 8 rfl;have x1_9:=HS1.out.x.c 9 rfl;have b1:=HS1.out.b.c 0 rfl;clear hw hk)
  |(go_at_call 94;(with_reducible refine(HC1.out _ _ _ _ HS1.out.wr (by have:=HL.out;(try simp only[Bin.cat,zz]);omega)).mono ?_);rintro e w2 ⟨rfl,v2,hw,hk⟩;have HS2:=hid ((HS1.out.alloc _).step hw hk);have x2_0:=HS2.out.x.c 0 rfl;have x2_1:=HS2.out.x.c 1 rfl;have x2_2:=HS2.out.x.c 2 rfl;have x2_3:=HS2.out.x.c 3 rfl;have x2_4:=HS2.out.x.c 4 rfl;have x2_5:=HS2.out.x.c 5 rfl;have x2_6:=HS2.out.x.c 6 rfl;have x2_7:=HS2.out.x.c 7 rfl;have x2_8:=HS2.out.x.c 8 rfl;have x2_9:=HS2.out.x.c 9 rfl;have b2:=HS2.out.b.c 0 rfl;clear hw hk)
  |(go_at_call 102;(with_reducible refine(HC2.out _ _ _ _ HS2.out.wr (HS2.out.b (by simp)) (by have:=HL.out;(try simp only[Bin.cat,zz]);omega)).mono ?_);rintro e w3 ⟨rfl,v3,hw,hk⟩;have HS3:=hid (HS2.out.step hw hk);have b3:=HS3.out.b.c 0 rfl;clear hw hk))
 go_end0
 exact⟨rfl,v3,HS3.out.wr.eq (by simp[Bin.pEl,kEl,Bin.cat]) (by cases bad<;>simp[Bin.pEl,kEl,Bin.cat,Bin.pByte,Bin.pFlag,jz,qo]),HS3.out.k⟩
theorem declDa_any{W:Nat}{w0 w:World}{v u:Value}{bs:List UInt8}{bad:Bool}{B0:Nat}(x:Da)(hx:x.ok w0 w0.heap.size)(hN:Nam w0)(hwt:wt (ofN [x.i.n])<=2200000)(h:Wr W w0 w v u bs bad)(hB:Bx W w v B0 [pW W])(hL:bs.length+(Bin.pDa (kDa x)).1.length<=100000000):
  Calls prog 110 #[.agg #[.int .i64 x.i.n.op,.int .i64 x.i.n.a,.int .i64 x.i.n.b,.int .u64 x.i.n.v,.int .i64 x.i.n.t,.slice x.i.p.AL x.i.n.L.length x.i.p.cL,.slice x.i.p.Ab (len x.i.n.body) x.i.p.cb,.slice x.i.p.Ae (len x.i.n.els) x.i.p.ce,.bool x.i.n.he,.slice x.bs.A x.bs.bs.length x.bs.c],.pointer (some ⟨B0,0,none⟩)] w (WrP W w0 w v u bs bad (Bin.pDa (kDa x))):=by
 (try simp only[Bin.pDa,kDa,Bin.cat,zz]at hL)
 have HL:=hid hL
 have HC0:=hid (λw' v' bs' bad' (h':Wr W w0 w' v' u bs' bad') hl'=>number_any 0 (by unfold inI;omega) h' hl')
 have HC1:=hid (λw' v' bs' bad' (h':Wr W w0 w' v' u bs' bad') hl'=>wexpr1_any x.i hN hx.i hwt h' hl')
 have HC2:=hid (λw' v' bs' bad' (h':Wr W w0 w' v' u bs' bad') hl'=>wbytes_any x.bs.bs x.bs.A x.bs.c h' (h'.lst hx.bs.sl.ones) hl')
 have HS0:=hid (Wz.new h (λ_=>hB) [.int .i64 x.i.n.op,.int .i64 x.i.n.a,.int .i64 x.i.n.b,.int .u64 x.i.n.v,.int .i64 x.i.n.t,.slice x.i.p.AL x.i.n.L.length x.i.p.cL,.slice x.i.p.Ab (len x.i.n.body) x.i.p.cb,.slice x.i.p.Ae (len x.i.n.els) x.i.p.ce,.bool x.i.n.he,.slice x.bs.A x.bs.bs.length x.bs.c] 65)
 have qb:=hB.cell 0 _ rfl
 have qn:=hB.lt
 clear h hL hB
 unfold WrP at HC0 HC1 HC2⊢
 go_enter func110,ntmps110
 go_wp2_with(first
  |(go_at_call 84;(with_reducible refine(HC0.out _ _ _ _ HS0.out.wr (by have:=HL.out;(try simp only[Bin.cat,zz]);omega)).mono ?_);rintro e w1 ⟨rfl,v1,hw,hk⟩;have HS1:=hid (HS0.out.step hw hk);have x1_0:=HS1.out.x.c 0 rfl;have x1_1:=HS1.out.x.c 1 rfl;have x1_2:=HS1.out.x.c 2 rfl;have x1_3:=HS1.out.x.c 3 rfl;have x1_4:=HS1.out.x.c 4 rfl;have x1_5:=HS1.out.x.c 5 rfl;have x1_6:=HS1.out.x.c 6 rfl;have x1_7:=HS1.out.x.c 7 rfl;have x1_8:=HS1.out.x.c 8 rfl;have x1_9:=HS1.out.x.c 9 rfl;have b1:=HS1.out.b.c 0 rfl;clear hw hk)
  |(go_at_call 94;(with_reducible refine(HC1.out _ _ _ _ HS1.out.wr (by have:=HL.out;(try simp only[Bin.cat,zz]);omega)).mono ?_);rintro e w2 ⟨rfl,v2,hw,hk⟩;have HS2:=hid ((HS1.out.alloc _).step hw hk);have x2_0:=HS2.out.x.c 0 rfl;have x2_1:=HS2.out.x.c 1 rfl;have x2_2:=HS2.out.x.c 2 rfl;have x2_3:=HS2.out.x.c 3 rfl;have x2_4:=HS2.out.x.c 4 rfl;have x2_5:=HS2.out.x.c 5 rfl;have x2_6:=HS2.out.x.c 6 rfl;have x2_7:=HS2.out.x.c 7 rfl;have x2_8:=HS2.out.x.c 8 rfl;have x2_9:=HS2.out.x.c 9 rfl;have b2:=HS2.out.b.c 0 rfl;clear hw hk)
  |(go_at_call 105;(with_reducible refine(HC2.out _ _ _ _ HS2.out.wr (by have:=HL.out;(try simp only[Bin.cat,zz]);omega)).mono ?_);rintro e w3 ⟨rfl,v3,hw,hk⟩;have HS3:=hid (HS2.out.step hw hk);have b3:=HS3.out.b.c 0 rfl;clear hw hk))
 go_end0
 exact⟨rfl,v3,HS3.out.wr.eq (by simp[Bin.pDa,kDa,Bin.cat]) (by cases bad<;>simp[Bin.pDa,kDa,Bin.cat,Bin.pByte,Bin.pFlag,jz,qo]),HS3.out.k⟩
namespace Bin
theorem enc_len2(f:Fo):may f=true->vok f->lsh f=true->(enc f).length<=664 * cnt f:=by
 induction f with
 |nil=>intros;simp[enc]
 |cons op a b v t L body els he next h1 h2 h3=>
  intro hm hv hs
  simp only[may,zp]at hm
  obtain⟨⟨⟨hfit,hm1⟩,hm2⟩,hm3⟩:=hm
  obtain⟨hv0,hv1,hv2,hv3⟩:=hv
  simp only[lsh,zp,decide_eq_true_eq]at hs
  obtain⟨⟨⟨hL,hs1⟩,hs2⟩,hs3⟩:=hs
  have q1:=h1 hm1 hv1 hs1
  have q2:=h2 hm2 hv2 hs2
  have q3:=h3 hm3 hv3 hs3
  have hP:=eP_len op a b v L hv0 (fit_facts hfit).2.2.2.2.2.2.2.2.2.2.2.2.1
  simp only[enc,cnt,zl,zz,eB]
  split
  ·
   have:((if he=true then 5::enc els else[]):List UInt8).length<=1+(enc els).length:=by
    split<;>simp<;>omega
   simp only[zl,zz,zh]
   omega
  ·omega
theorem wt_cnt(f:Fo):lsh f=true->wt f<=65 * cnt f:=by
 induction f with
 |nil=>intros;simp[wt]
 |cons op a b v t L body els he next h1 h2 h3=>
  intro hs
  simp only[lsh,zp,decide_eq_true_eq]at hs
  obtain⟨⟨⟨hL,hs1⟩,hs2⟩,hs3⟩:=hs
  have q1:=h1 hs1
  have q2:=h2 hs2
  have q3:=h3 hs3
  simp only[wt,cnt]
  omega
theorem pExpr_len{f:Fo}(h:sX f):(pExpr f).1.length<=340000:=by
 unfold pExpr
 split
 ·
  rename_i hm
  have:=enc_len2 f hm h.vok h.lsh
  have:=h.cnt
  simp
  omega
 ·simp
theorem pNum_len(n:Int):(pNum n).1.length<=10:=eN_len n
theorem pAll_len{α:Type}(p:α->Pc)(B:Nat):∀(l:List α),(∀x∈l,(p x).1.length<=B)->(pAll p l).1.length<=B * l.length
 | [],_=>by simp[pAll]
 |x::l,h=>by
  rw[xk]at h
  have:=pAll_len p B l h.2
  rw[pAll_cons]
  simp only[cat,zz,zl,Nat.mul_add]
  omega
theorem pList_len{α:Type}(p:α->Pc)(B n:Nat)(l:List α)(hn:l.length<=n)(h:∀x∈l,(p x).1.length<=B):(pList p l).1.length<=10+B * n:=by
 have h1:=pAll_len p B l h
 have h2:=pNum_len (l.length:Int)
 have h3:B * l.length<=B * n:=Nat.mul_le_mul_left _ hn
 simp only[pList,cat,zz]
 omega
theorem pType_len(t:Int):(pType t).1.length<=1:=by
 unfold pType
 split
 ·simp
 ·split<;>simp
theorem pFlag_len(b:Bool):(pFlag b).1.length=1:=by simp[pFlag]
theorem pKind_len(k:Int):(pKind k).1.length=1:=by simp[pKind]
theorem pBytes_len(l:List UInt8):(pBytes l).1.length<=10+l.length:=by
 have:=pNum_len (l.length:Int)
 simp only[pBytes,cat,zz]
 omega
theorem pName_len{s:ByteArray}(h:sName s):(pName s).1.length<=74:=by
 have:=pBytes_len s.data.toList
 unfold sName at h
 simp only[pName]
 omega
theorem pLim_len(l:Lm):(pLim l).1.length<=21:=by
 have h1:=pNum_len l.mn
 have h2:=pNum_len l.mx
 have h3:=pFlag_len l.hs
 simp only[pLim,cat,zz]
 split
 ·omega
 ·simp;omega
theorem pTab_len(l:Lm):(pTab l).1.length<=22:=by
 have:=pLim_len l
 simp only[pTab,cat,pByte,zz,zl,zh]
 omega
theorem pFt_len{x:List Int×List Int}(h:sFt x):(pFt x).1.length<=149:=by
 have h1:=pList_len pType 1 64 x.1 h.1 (λt _=>pType_len t)
 have h2:=pList_len pType 1 64 x.2 h.2 (λt _=>pType_len t)
 simp only[pFt,cat,pByte,zz,zl,zh]
 omega
theorem pImp_len(i:Im):(pImp i).1.length<=22:=by
 have h1:=pNum_len i.ty
 have h2:=pTab_len i.lm
 have h3:=pLim_len i.lm
 have h4:=pType_len i.ty
 have h5:=pFlag_len i.mu
 unfold pImp
 split
 ·simp[cat];omega
 ·
  split
  ·simp[cat];omega
  ·
   split
   ·simp[cat];omega
   ·
    split
    ·simp[cat];omega
    ·simp
theorem pIm_len{i:Im}(h:sIm i):(pIm i).1.length<=171:=by
 have h1:=pName_len h.1
 have h2:=pName_len h.2
 have h3:=pKind_len i.kd
 have h4:=pImp_len i
 simp only[pIm,cat,zz]
 omega
theorem pGl_len{x:Int×Bool×Nd}(h:sGl x):(pGl x).1.length<=340002:=by
 have h1:=pType_len x.1
 have h2:=pFlag_len x.2.1
 have h3:(pOne x.2.2).1.length<=340000:=pExpr_len h
 simp only[pGl,cat,zz]
 omega
theorem pEx_len{x:Ex}(h:sEx x):(pEx x).1.length<=85:=by
 have h1:=pName_len h
 have h2:=pKind_len x.kd
 have h3:=pNum_len x.ix
 simp only[pEx,cat,zz]
 omega
theorem pEl_len{x:Nd×List Int}(h:sEl x):(pEl x).1.length<=340660:=by
 have h1:=pNum_len 0
 have h2:(pOne x.1).1.length<=340000:=pExpr_len h.1
 have h3:=pList_len pNum 10 64 x.2 h.2 (λt _=>pNum_len t)
 simp only[pEl,cat,zz]
 omega
theorem pDa_len{x:Nd×List UInt8}(h:sDa x):(pDa x).1.length<=344116:=by
 have h1:=pNum_len 0
 have h2:(pOne x.1).1.length<=340000:=pExpr_len h.1
 have h3:=pBytes_len x.2
 have h4:=h.2
 simp only[pDa,cat,zz]
 omega
theorem pLoc_len{l:List Int}(h:sLoc l):(pLoc l).1.length<=714:=by
 have h0:(runs l).length<=64:=by
  have:∀(l:List Int) (a:List (Nat×Int)),(l.foldl more1 a).length<=a.length+l.length:=by
   intro l
   induction l with
   |nil=>simp
   |cons t l ih=>intro a;have:=ih (more1 a t);have:=(more1_len a t).1;simp;omega
  have h1:=this l []
  rw[zh,qz]at h1
  exact zy h1 h
 have:=pList_len pRun 11 64 (runs l) h0 (λx _=>by
  have h1:=pNum_len (x.1:Int)
  have h2:=pType_len x.2
  simp only[pRun,cat,zz]
  omega)
 exact this
theorem pFn_len{x:List Int×Fo}(h:sCode x):(pFn x).1.length<=340724:=by
 have h1:=pLoc_len h.1
 have h2:=pExpr_len h.2
 have h3:=pBytes_len (pCode x).1
 have h4:(pCode x).1.length=(pLoc x.1).1.length+(pExpr x.2).1.length:=by simp[pCode,cat]
 simp only[pFn]
 omega
theorem pCu_len{x:ByteArray×List UInt8}(h:sCu x):(pCu x).1.length<=4170:=by
 have h1:=pName_len h.1
 have h2:=h.2
 simp only[pCu,cat,zz]
 omega
theorem opt_encL{α:Type}(id:Int)(p:α->Pc)(l:List α)(B:Nat)(h:(pList p l).1.length<=B)(hB:B<2^60):(Sect.encL (opt id p l)).length<=11+B:=by
 unfold opt
 split
 ·simp[Sect.encL]
 ·
  have:=Leb.putU_len10 (v:=(pList p l).1.length) (by omega)
  simp only[Sect.encL,js,List.flatMap_nil,jy,Sect.encS_length]
  omega
theorem cu_encL:∀(l:List (ByteArray×List UInt8)),(∀x∈l,sCu x)->(Sect.encL (l.map λc=>((0:Int),(pCu c).1))).length<=4181 * l.length
 | [],_=>by simp[Sect.encL]
 |x::l,h=>by
  rw[xk]at h
  have h1:=cu_encL l h.2
  have h2:=pCu_len h.1
  have h3:=Leb.putU_len10 (v:=(pCu x).1.length) (by omega)
  rw[qu,Sect.encL_cons,zz,Sect.encS_length,zl,Nat.mul_add]
  dsimp only
  omega
theorem encD_len(d:Dm)(h:smD d):(encD d).length<=90000000:=by
 have a1:=opt_encL 1 pFt d.ty _ (pList_len pFt 149 64 d.ty h.ty.1 (λx hx=>pFt_len (h.ty.2 x hx))) (by omega)
 have a2:=opt_encL 2 pIm d.im _ (pList_len pIm 171 64 d.im h.im.1 (λx hx=>pIm_len (h.im.2 x hx))) (by omega)
 have a3:=opt_encL 3 pNum d.ft _ (pList_len pNum 10 64 d.ft h.ft (λx _=>pNum_len x)) (by omega)
 have a4:=opt_encL 4 pTab d.ta _ (pList_len pTab 22 64 d.ta h.ta (λx _=>pTab_len x)) (by omega)
 have a5:=opt_encL 5 pLim d.me _ (pList_len pLim 21 64 d.me h.me (λx _=>pLim_len x)) (by omega)
 have a6:=opt_encL 6 pGl d.gl _ (pList_len pGl 340002 64 d.gl h.gl.1 (λx hx=>pGl_len (h.gl.2 x hx))) (by omega)
 have a7:=opt_encL 7 pEx d.ex _ (pList_len pEx 85 64 d.ex h.ex.1 (λx hx=>pEx_len (h.ex.2 x hx))) (by omega)
 have a8:(Sect.encL (optS d.st)).length<=21:=by
  unfold optS
  split
  ·simp[Sect.encL]
  ·
   have:=pNum_len d.st
   have:=Leb.putU_len10 (v:=(pNum d.st).1.length) (by omega)
   simp only[Sect.encL,js,List.flatMap_nil,jy,Sect.encS_length]
   omega
 have a9:=opt_encL 9 pEl d.el _ (pList_len pEl 340660 64 d.el h.el.1 (λx hx=>pEl_len (h.el.2 x hx))) (by omega)
 have a10:=opt_encL 10 pFn d.fn _ (pList_len pFn 340724 64 d.fn h.fn.1 (λx hx=>pFn_len (h.fn.2 x hx))) (by omega)
 have a11:=opt_encL 11 pDa d.da _ (pList_len pDa 344116 64 d.da h.da.1 (λx hx=>pDa_len (h.da.2 x hx))) (by omega)
 have a12:=cu_encL d.cu h.cu.2
 have a13:=h.cu.1
 have e8:Sect.magic.length=8:=rfl
 unfold encD secs
 simp only[zz,encL_append,e8]
 omega
end Bin
theorem sh_lsh(f:Fo):sh f=lsh f:=by
 induction f with
 |nil=>rfl
 |cons op a b v t L body els he next h1 h2 h3=>simp only[sh,lsh,h1,h2,h3]
structure Cn(m:Mo):Prop where
 fn:∀x∈m.fn.l,cnt x.bo.f<=4611686018427387904
 gl:∀x∈m.gl.l,cnt (ofN [x.i.n])<=4611686018427387904
 el:∀x∈m.el.l,cnt (ofN [x.i.n])<=4611686018427387904
 da:∀x∈m.da.l,cnt (ofN [x.i.n])<=4611686018427387904
theorem scode_sX{f:Fo}(hc:cnt f<=4611686018427387904)(hv:vok f)(h:scode f=true):Bin.sX f:=by
 unfold scode at h
 simp only[zp,decide_eq_true_eq]at h
 obtain⟨⟨h1,h2⟩,h3⟩:=h
 rw[sh_lsh]at h3
 refine⟨h3,hv,?_,h2⟩
 unfold wrap64 at h1
 omega
theorem sX_scode{f:Fo}(h:Bin.sX f):scode f=true:=by
 unfold scode
 simp only[zp,decide_eq_true_eq]
 refine⟨⟨?_,h.dp⟩,by rw[sh_lsh];exact h.lsh⟩
 have:=h.cnt
 unfold wrap64
 omega
theorem In.vok{w:World}{i:In}(h:i.ok w w.heap.size):vok (ofN [i.n]):=(In.rd (t:=0) h).vok
theorem mx9_le(a b c d e f g h i:Int):mx9 a b c d e f g h i<=64↔a<=64/\b<=64/\c<=64/\d<=64/\e<=64/\f<=64/\g<=64/\h<=64/\i<=64:=by
 have key:∀x y:Int,mx2 x y<=64↔x<=64/\y<=64:=λx y=>by unfold mx2;split<;>omega
 unfold mx9
 simp only[key,and_assoc]
theorem small_smD{m:Mo}{w:World}(hm:m.ok w w.heap.size)(hc:Cn m)(h:smallM m=true):Bin.smD (Bin.ofK (keyM m)):=by
 unfold smallM at h
 simp only[zp,List.all_eq_true]at h
 obtain⟨⟨⟨⟨⟨⟨⟨⟨h0,h1⟩,h2⟩,h3⟩,h4⟩,h5⟩,h6⟩,h7⟩,h8⟩:=h
 unfold fewI at h0
 simp only[zp,decide_eq_true_eq,mx9_le]at h0
 obtain⟨n0,n1,n2,n3,n4,n5,n6,n7,n8,n9⟩:=h0
 refine⟨⟨by simp[Bin.ofK,keyM];omega,?_⟩,⟨by simp[Bin.ofK,keyM];omega,?_⟩,by simp[Bin.ofK,keyM];omega,by simp[Bin.ofK,keyM];omega,by simp[Bin.ofK,keyM];omega,⟨by simp[Bin.ofK,keyM];omega,?_⟩,⟨by simp[Bin.ofK,keyM];omega,?_⟩,⟨by simp[Bin.ofK,keyM];omega,?_⟩,⟨by simp[Bin.ofK,keyM];omega,?_⟩,⟨by simp[Bin.ofK,keyM];omega,?_⟩,⟨by simp[Bin.ofK,keyM];omega,?_⟩⟩
 ·
  intro y hy
  obtain⟨x,hx,rfl⟩:=List.mem_map.1 hy
  have:=h1 x hx
  simp only[smTy,zp,decide_eq_true_eq]at this
  exact this
 ·
  intro x hx
  have:=h2 x hx
  simp only[smIm,zp,decide_eq_true_eq]at this
  exact⟨by unfold Bin.sName;rw[size_list];exact this.1,by unfold Bin.sName;rw[size_list];exact this.2⟩
 ·
  intro y hy
  obtain⟨x,hx,rfl⟩:=List.mem_map.1 hy
  have:=h4 x hx
  exact scode_sX (hc.gl x hx) (In.vok (hm.gl.all x hx).i) this
 ·
  intro x hx
  have:=h5 x hx
  simp only[smEx,decide_eq_true_eq]at this
  show Bin.sName x.nm
  unfold Bin.sName;rw[size_list];exact this
 ·
  intro y hy
  obtain⟨x,hx,rfl⟩:=List.mem_map.1 hy
  have:=h6 x hx
  simp only[smEl,zp,decide_eq_true_eq]at this
  exact⟨scode_sX (hc.el x hx) (In.vok (hm.el.all x hx).i) this.2,this.1⟩
 ·
  intro y hy
  obtain⟨z,hz,rfl⟩:=List.mem_map.1 hy
  obtain⟨x,hx,rfl⟩:=List.mem_map.1 hz
  have:=h3 x hx
  simp only[smFn,zp,decide_eq_true_eq]at this
  exact⟨this.1,scode_sX (hc.fn x hx) (hm.fn.all x hx).bo.rd.vok this.2⟩
 ·
  intro y hy
  obtain⟨x,hx,rfl⟩:=List.mem_map.1 hy
  have:=h7 x hx
  simp only[smDa,zp,decide_eq_true_eq]at this
  exact⟨scode_sX (hc.da x hx) (In.vok (hm.da.all x hx).i) this.2,this.1⟩
 ·
  intro y hy
  obtain⟨x,hx,rfl⟩:=List.mem_map.1 hy
  have:=h8 x hx
  simp only[smCu,zp,decide_eq_true_eq]at this
  exact⟨by unfold Bin.sName;rw[size_list];exact this.1,this.2⟩
theorem smD_small{m:Mo}(h:Bin.smD (Bin.ofK (keyM m))):smallM m=true/\Cn m:=by
 have e:∀(s:ByteArray),Bin.sName s->s.size<=64:=λs hs=>by rw[<-size_list];exact hs
 have l1:=h.ty.1
 have l2:=h.im.1
 have l3:=h.ft
 have l4:=h.ta
 have l5:=h.me
 have l6:=h.gl.1
 have l7:=h.ex.1
 have l8:=h.el.1
 have l9:=h.da.1
 have l10:=h.cu.1
 simp only[Bin.ofK,keyM,zd]at l1 l2 l3 l4 l5 l6 l7 l8 l9 l10
 have gl:∀x∈m.gl.l,Bin.sX (ofN [x.i.n]):=λx hx=>h.gl.2 _ (qp (f:=kGl) hx)
 have el:∀x∈m.el.l,Bin.sX (ofN [x.i.n])/\x.fs.zs.length<=64:=λx hx=>h.el.2 _ (qp (f:=kEl) hx)
 have da:∀x∈m.da.l,Bin.sX (ofN [x.i.n])/\x.bs.bs.length<=4096:=λx hx=>h.da.2 _ (qp (f:=kDa) hx)
 have fn:∀x∈m.fn.l,x.lo.zs.length<=64/\Bin.sX x.bo.f:=λx hx=>(show Bin.sCode (kFn x).2 from h.fn.2 _ (qp (f:=λy:Int×List Int×Fo=>y.2) (qp (f:=kFn) hx)))
 refine⟨?_,⟨λx hx=>by have:=(fn x hx).2.cnt;omega,λx hx=>by have:=(gl x hx).cnt;omega,λx hx=>by have:=(el x hx).1.cnt;omega,λx hx=>by have:=(da x hx).1.cnt;omega⟩⟩
 unfold smallM
 simp only[zp,List.all_eq_true]
 refine⟨⟨⟨⟨⟨⟨⟨⟨?_,λx hx=>?_⟩,λx hx=>?_⟩,λx hx=>?_⟩,λx hx=>?_⟩,λx hx=>?_⟩,λx hx=>?_⟩,λx hx=>?_⟩,λx hx=>?_⟩
 ·
  unfold fewI
  simp only[zp,decide_eq_true_eq,mx9_le]
  omega
 ·
  have:=h.ty.2 _ (qp (f:=kTy) hx)
  simp only[smTy,zp,decide_eq_true_eq]
  exact this
 ·
  have:=h.im.2 x hx
  simp only[smIm,zp,decide_eq_true_eq]
  exact⟨e _ this.1,e _ this.2⟩
 ·
  simp only[smFn,zp,decide_eq_true_eq]
  exact⟨(fn x hx).1,sX_scode (fn x hx).2⟩
 ·exact sX_scode (gl x hx)
 ·
  have:=h.ex.2 x hx
  simp only[smEx,decide_eq_true_eq]
  exact e _ this
 ·
  simp only[smEl,zp,decide_eq_true_eq]
  exact⟨(el x hx).2,sX_scode (el x hx).1⟩
 ·
  simp only[smDa,zp,decide_eq_true_eq]
  exact⟨(da x hx).2,sX_scode (da x hx).1⟩
 ·
  have:=h.cu.2 _ (qp (f:=kCu) hx)
  simp only[smCu,zp,decide_eq_true_eq]
  exact⟨e _ this.1,this.2⟩
end Go.Proofs.YteoijlfipmaoeaaGreatDoor
namespace Go.Proofs.YteoijlfipmaoeaaGreatDoor
open Go.RowKit Go.ChangeShapes Go.WideShapes Go.Deep Trx
open Go.Proofs.Tryz
theorem cnt_wt(f:Fo):cnt f<=wt f:=by
 induction f with
 |nil=>exact zq _
 |cons op a b v t L body els he next h1 h2 h3=>simp only[cnt,wt];omega
theorem len_zero{f:Fo}(h:len f=0):f=.nil:=by
 cases f with
 |nil=>rfl
 |cons=>simp[len,nds]at h
theorem RdF.cnt_eq{w:World}{B B':Nat}:∀(f g:Fo) (blk off:Nat),len f=len g->RdF w B f blk off->RdF w B' g blk off->cnt f=cnt g
 |.nil,g,blk,off,hl,h1,h2=>by rw[len_zero (f:=g) (by rw[<-hl];rfl)]
 |.cons op a b v t L body els he next,.nil,blk,off,hl,h1,h2=>by simp[len,nds]at hl
 |.cons op a b v t L body els he next,.cons op' a' b' v' t' L' body' els' he' next',blk,off,hl,h1,h2=>by
  obtain⟨⟨-,p,hc,-,hb,hE⟩,hn⟩:=h1
  obtain⟨⟨-,p',hc',-,hb',hE'⟩,hn'⟩:=h2
  have e6:=(hc 6 (by omega)).symm.trans (hc' 6 (by omega))
  have e7:=(hc 7 (by omega)).symm.trans (hc' 7 (by omega))
  simp[insC]at e6 e7
  obtain⟨e61,e62,-⟩:=e6
  obtain⟨e71,e72,-⟩:=e7
  have k1:cnt body=cnt body':=by
   by_cases hz:body=.nil
   ·
    have hz':body'=.nil:=len_zero (by rw[<-e62,hz];rfl)
    rw[hz,hz']
   ·
    have hz':body'≠.nil:=λe=>hz (len_zero (by rw[e62,e];rfl))
    obtain⟨b1,o1,g1,g2⟩:=hb hz
    obtain⟨b2,o2,g3,g4⟩:=hb' hz'
    rw[g1,g3]at e61
    injection e61 with e61
    injection e61 with e8 e9
    subst e8 e9
    exact RdF.cnt_eq body body' b1 o1 e62 g2 g4
  have k2:cnt els=cnt els':=by
   by_cases hz:els=.nil
   ·
    have hz':els'=.nil:=len_zero (by rw[<-e72,hz];rfl)
    rw[hz,hz']
   ·
    have hz':els'≠.nil:=λe=>hz (len_zero (by rw[e72,e];rfl))
    obtain⟨b1,o1,g1,g2⟩:=hE hz
    obtain⟨b2,o2,g3,g4⟩:=hE' hz'
    rw[g1,g3]at e71
    injection e71 with e71
    injection e71 with e8 e9
    subst e8 e9
    exact RdF.cnt_eq els els' b1 o1 e72 g2 g4
  have hl':len next=len next':=by simpa[len,nds]using hl
  have k3:=RdF.cnt_eq next next' blk (off+9) hl' hn hn'
  simp only[cnt]
  omega
theorem RdS.cnt_eq{w:World}{B B':Nat}{A:Option Addr}{f g:Fo}(h1:RdS w B A f)(h2:RdS w B' A g)(hl:len f=len g):cnt f=cnt g:=by
 by_cases hz:f=.nil
 ·
  have hz':g=.nil:=len_zero (by rw[<-hl,hz];rfl)
  rw[hz,hz']
 ·
  have hz':g≠.nil:=λe=>hz (len_zero (by rw[hl,e];rfl))
  obtain⟨b1,o1,g1,g2⟩:=h1 hz
  obtain⟨b2,o2,g3,g4⟩:=h2 hz'
  rw[g1]at g3
  injection g3 with g3
  injection g3 with e8 e9
  subst e8 e9
  exact RdF.cnt_eq f g b1 o1 hl g2 g4
section
variable{H:Type}
theorem bulk_mem{l:List (DataW H)}{d:DataW H}(h:d∈l):Rows.uptoBulk d<=Rows.uptoBulkAll l:=by
 induction l with
 |nil=>cases h
 |cons a l ih=>
  simp only[Rows.uptoBulkAll]
  rcases List.mem_cons.1 h with rfl|h
  ·omega
  ·have:=ih h;omega
variable{enc:TypeId×Value->H}{w:World}{base:Nat}{spare:Nat->Bool}{held:Bool}
theorem fl_bulk{fuel:Nat}{x:DataW H×List MemPlace}{l:FL}(h:DataW.trod enc prog w base spare held fuel 53 [l.v]=some x)(hok:l.ok w w.heap.size):cnt l.f<=Rows.uptoBulk x.1:=by
 obtain⟨A,f,c,hcs,-,-,hr,hu⟩:=open_insB fuel _ _ h
 simp[FL.v]at hcs
 obtain⟨e1,e2,-⟩:=hcs
 rw[<-e1]at hr
 rw[hok.rd.cnt_eq hr e2]
 exact zy (cnt_wt f) hu
theorem in_bulk{fuel:Nat}{x:DataW H×List MemPlace}{i:In}(h:DataW.trod enc prog w base spare held fuel 59 i.cells=some x)(hok:i.ok w w.heap.size):cnt (ofN [i.n])<=Rows.uptoBulk x.1:=by
 obtain⟨nd,p,hcs,hnd,hu⟩:=open_nd_ofB fuel (λm _ cs x=>open_insB m cs x) (zq _) h
 simp[In.cells,insC]at hcs
 obtain⟨-,-,-,-,-,-,⟨e1,e2,-⟩,⟨e3,e4,-⟩,-⟩:=hcs
 have h1:=hnd.body
 have h2:=hnd.els
 rw[<-e1]at h1
 rw[<-e3]at h2
 have k1:=hok.nd.body.cnt_eq h1 e2
 have k2:=hok.nd.els.cnt_eq h2 e4
 have k3:=cnt_wt nd.body
 have k4:=cnt_wt nd.els
 simp only[ofN,cnt]
 omega
theorem field_bulk{P:Program}{e:TypeId}{fs:Array Field}{fuel:Nat}{cs:List Value}{x:DataW H×List MemPlace}(he:P.underlying e=some (.struct fs))(h:DataW.trod enc P w base spare held fuel e cs=some x)(i:Nat)(t:TypeId)(o k:Nat)(hf:(fs[i]?).map (λf=>(f.type,f.offset))=some (t,o))(hk:P.cellsOf t=k):
  ∃n y,DataW.trod enc P w base spare held n t ((cs.drop o).take k)=some y/\Rows.uptoBulk y.1<=Rows.uptoBulk x.1:=by
 obtain⟨ys,n,hn,hy,hlen,hyl,hall⟩:=DataW.trod_struct he h
 obtain⟨f,hf1,hf2⟩:=Option.map_eq_some_iff.1 hf
 simp only[Prod.mk.injEq]at hf2
 obtain⟨rfl,rfl⟩:=hf2
 subst hk
 have hil:i<fs.size:=(Array.getElem?_eq_some_iff.1 hf1).1
 have hys:ys[i]? =some (ys[i]'(by omega)):=zb (by omega)
 refine⟨n,_,(hall i f hf1).trans hys,?_⟩
 subst hy
 simp only[Rows.uptoBulk]
 have:=bulk_mem (qp (f:=(·.1)) (zu hys))
 omega
theorem rows_bulk{P:Program}{α:Type}{cells:α->List Value}{t e:TypeId}{k:Nat}{A:Option Addr}{l:List α}{c:Nat}(ht:P.underlying t=some (.slice e))(hk:P.cellsOf e=k)(hlen:∀a,(cells a).length=k)(hpos:0<k){fuel:Nat}{x:DataW H×List MemPlace}
  (h:DataW.trod enc P w base spare held fuel t [.slice A l.length c]=some x) (hr:RowsAt w w.heap.size A k (l.map cells)) {v:α} (hv:v∈l):∃n y,DataW.trod enc P w base spare held n e (cells v)=some y/\Rows.uptoBulk y.1<=Rows.uptoBulk x.1:=by
 rcases DataW.trod_slice ht h with⟨h0,-⟩|⟨a,l0,cap,elems,rest,n,hn,hcs,hx,hb,hl,hm,hlen',hel,-,-⟩
 ·
  simp at h0
  have:l=[]:=h0.2.1
  subst this
  cases hv
 ·
  simp at hcs
  obtain⟨rfl,rfl,rfl⟩:=hcs
  obtain⟨i,hi,rfl⟩:=List.mem_iff_getElem.1 hv
  have h1:=hel i hi
  have hei:elems[i]? =some (elems[i]'(by omega)):=zb (by omega)
  rw[hei,Option.bind_eq_some_iff,hk]at h1
  obtain⟨cs',h2,h3⟩:=h1
  obtain⟨g1,g2⟩:=cells_at h2
  obtain⟨b,o,hA,-,hc⟩:=hr (by intro e;have:=congrArg List.length e;simp at this;subst this;simp at hi)
  injection hA with hA
  have hcells:cs'=cells l[i]:=by
   apply List.ext_getElem?
   intro j
   by_cases hj:j<k
   ·rw[<-g2 j hj,<-hc i (cells l[i]) (by rw[zr,zb hi];rfl) j hj,hA,add_at,add_at]
   ·rw[qt (by omega),qt (by rw[hlen];omega)]
  subst hcells
  refine⟨n,_,h3,?_⟩
  subst hx
  simp only[Rows.uptoBulk]
  have:=bulk_mem (qp (f:=(·.1)) (zu hei))
  omega
theorem mo_bulk{fuel:Nat}{x:DataW H×List MemPlace}{m:Mo}(h:DataW.trod enc prog w base spare held fuel 32 m.cells=some x)(hok:m.ok w w.heap.size)(hb:Rows.uptoBulk x.1<=1048576):Cn m:=by
 have big:∀{n:Nat},n<=Rows.uptoBulk x.1->n<=4611686018427387904:=λh=>by omega
 refine⟨λv hv=>big ?_,λv hv=>big ?_,λv hv=>big ?_,λv hv=>big ?_⟩
 ·
  obtain⟨n1,y1,t1,u1⟩:=field_bulk underlying32 h 2 24 2 1 rfl (by kernel_rfl)
  obtain⟨n2,y2,t2,u2⟩:=rows_bulk (cells:=Fn.cells) (k:=3) underlying24 (by kernel_rfl) (λ_=>rfl) (by omega) t1 hok.fn.rows hv
  obtain⟨n3,y3,t3,u3⟩:=field_bulk underlying55 t2 2 53 2 1 rfl (by kernel_rfl)
  have:=fl_bulk (l:=v.bo) t3 (hok.fn.all v hv).bo
  omega
 ·
  obtain⟨n1,y1,t1,u1⟩:=field_bulk underlying32 h 5 26 5 1 rfl (by kernel_rfl)
  obtain⟨n2,y2,t2,u2⟩:=rows_bulk (cells:=Gl.cells) (k:=11) underlying26 (by kernel_rfl) (λ_=>rfl) (by omega) t1 hok.gl.rows hv
  obtain⟨n3,y3,t3,u3⟩:=field_bulk underlying61 t2 2 59 2 9 rfl (by kernel_rfl)
  have:=in_bulk (i:=v.i) t3 (hok.gl.all v hv).i
  omega
 ·
  obtain⟨n1,y1,t1,u1⟩:=field_bulk underlying32 h 8 28 8 1 rfl (by kernel_rfl)
  obtain⟨n2,y2,t2,u2⟩:=rows_bulk (cells:=El.cells) (k:=10) underlying28 (by kernel_rfl) (λ_=>rfl) (by omega) t1 hok.el.rows hv
  obtain⟨n3,y3,t3,u3⟩:=field_bulk underlying63 t2 0 59 0 9 rfl (by kernel_rfl)
  have:=in_bulk (i:=v.i) t3 (hok.el.all v hv).i
  omega
 ·
  obtain⟨n1,y1,t1,u1⟩:=field_bulk underlying32 h 9 29 9 1 rfl (by kernel_rfl)
  obtain⟨n2,y2,t2,u2⟩:=rows_bulk (cells:=Da.cells) (k:=10) underlying29 (by kernel_rfl) (λ_=>rfl) (by omega) t1 hok.da.rows hv
  obtain⟨n3,y3,t3,u3⟩:=field_bulk underlying65 t2 0 59 0 9 rfl (by kernel_rfl)
  have:=in_bulk (i:=v.i) t3 (hok.da.all v hv).i
  omega
end
end Go.Proofs.YteoijlfipmaoeaaGreatDoor
namespace Go.Proofs.YteoijlfipmaoeaaGreatDoor
open Lib (hid)
open Go.RowKit Trx
open Go.Proofs.Tryz
def rnC(x:Nat×Int):List Value:=[.int .i64 (x.1:Int),.int .i64 x.2]
theorem elem_rn:ElemK prog 224 2 16:=ElemK.mk_ (z:=.agg #[.int .i64 0,.int .i64 0]) (by kernel_rfl) rfl
theorem runs_last:∀(l:List Int) (t:Int),∃a n,Bin.runs (l++[t])=a++[(n,t)]:=by
 intro l t
 rw[Bin.runs_snoc]
 rcases Bin.list_last (Bin.runs l)with h|⟨a,⟨n,k⟩,h⟩
 ·rw[h];exact⟨[],1,rfl⟩
 ·
  rw[h,Bin.more1_snoc]
  split
  ·exact⟨a,n+1,rfl⟩
  ·exact⟨a++[(n,k)],1,by simp⟩
theorem runs_len(l:List Int):(Bin.runs l).length<=l.length:=by
 have:∀(l:List Int) (a:List (Nat×Int)),(l.foldl Bin.more1 a).length<=a.length+l.length:=by
  intro l
  induction l with
  |nil=>simp
  |cons t l ih=>intro a;have:=ih (Bin.more1 a t);have:=(Bin.more1_len a t).1;simp;omega
 have h:=this l []
 rw[zh,qz]at h
 exact h
theorem OwnK.bump{B:Nat}{w0 w:World}{g c:Nat}{a:List (Nat×Int)}{n:Nat}{t:Int}(h:OwnK B w0 w 224 2 (.slice (some ⟨g,0,none⟩) (a.length+1) c) ((a++[(n,t)]).map rnC)):
  w.cell? ⟨g,a.length * 2,none⟩=some (.int .i64 (n:Int))/\w.frozen? ⟨g,a.length * 2,none⟩=false/\OwnK B w0 (w.setCell ⟨g,a.length * 2,none⟩ (.int .i64 ((n:Int)+1))) 224 2 (.slice (some ⟨g,0,none⟩) (a.length+1) c) ((a++[(n+1,t)]).map rnC):=by
 have hrow:=h.row
 have hl:((a++[(n,t)]).map rnC).length=a.length+1:=by simp
 rw[hl]at hrow
 have hf:∀(k:Nat),((a++[(k,t)]).map rnC).flatten=(a.map rnC).flatten++rnC (k,t):=by intro k;simp
 have hfl:(a.map rnC).flatten.length=a.length * 2:=by
  have:=flatten_len (k:=2) (rs:=a.map rnC) (by intro r hr;obtain⟨x,-,rfl⟩:=List.mem_map.1 hr;rfl)
  simpa using this
 refine⟨?_,hrow.frozenAt _,?_⟩
 ·
  rw[hrow.cellAt (a.length * 2) (by omega),hf,List.getElem?_append_right (by omega),hfl,Nat.sub_self]
  rfl
 ·
  obtain⟨h1,h2⟩:=hrow.stored (a.length * 2) (.int .i64 ((n:Int)+1))
  refine⟨?_,λr hr=>?_,h.below.setCell (by have:=(h.own_lt rfl).1;exact this) _,by have:=h.le;simpa[World.setCell]using this⟩
  ·
   rw[hf,List.set_append_right _ _ (by omega),hfl,Nat.sub_self]at h1
   rw[hf]
   have e2:((a++[(n+1,t)]).map rnC).length=a.length+1:=by simp
   rw[e2]
   exact h1
  ·obtain⟨x,-,rfl⟩:=List.mem_map.1 hr;rfl
theorem runs_any(l:IL)(w:World)(hl:l.ok w w.heap.size)(hs:l.zs.length<=64):
  Calls prog 181 #[.slice l.A l.zs.length l.c] w λe w'=>∃A c,e=.returned (.slice A (Bin.runs l.zs).length c)/\OwnK w.heap.size w w' 224 2 (.slice A (Bin.runs l.zs).length c) ((Bin.runs l.zs).map rnC):=by
 have HS:=hid hl.sl
 have HI:=hid hl.inI
 clear hl
 obtain⟨zs,A,c⟩:=l
 dsimp only at HS HI hs⊢
 go_enter func181,ntmps181
 go_wp2_with fail
 go_loopw [3,8] (λr i wr=>∃j:Nat,i=.int .i64 j/\j<=zs.length/\OwnK w.heap.size w wr 224 2 r ((Bin.runs (zs.take j)).map rnC)) (λ_ i _=>zs.length-(intOf i).toNat)
 case atStart=>exact⟨0,rfl,by omega,OwnK.nil_ _ _ _ _ (zx _ _) (zq _)⟩
 case round=>
  obtain⟨j,rfl,hj,ho⟩:=hrel
  by_cases hlt:j<zs.length
  ·
   obtain⟨b,o,rfl,hbl,hcell⟩:=HS.out (λe=>by have:=congrArg List.length e;simp[n64s]at this;subst this;simp at hlt)
   have q:∀k,(hk:k<zs.length)->wr.cell? ⟨b,o+k,none⟩=some (.int .i64 zs[k]):=λk hk=>(ho.below.cell (p:=⟨b,o+k,none⟩) hbl).trans ((hcell k (by simpa using hk)).trans (by simp[n64s,hk]))
   have qj:=q j hlt
   obtain⟨t,ht⟩:∃t,zs[j]=t:=⟨_,rfl⟩
   have htk:zs.take (j+1)=zs.take j++[t]:=by rw[ql hlt,ht]
   rw[ht]at qj
   have hrl:=runs_len (zs.take j)
   rw[qh]at hrl
   have hex:=Bin.expd_runs (zs.take j)
   have hmr:=Bin.runs_snoc (zs.take j) t
   rw[<-htk]at hmr
   obtain⟨R,hR⟩:∃R,Bin.runs (zs.take j)=R:=⟨_,rfl⟩
   have hlast:j≠0->∃a n,R=a++[(n,zs[j-1]'(by omega))]:=by
    intro hj0
    obtain⟨a,n,e⟩:=runs_last (zs.take (j-1)) (zs[j-1]'(by omega))
    refine⟨a,n,?_⟩
    rw[<-hR,<-e,<-ql (by omega)]
    congr 2
    omega
   rw[hR]at ho hrl hex hmr
   clear hR
   by_cases hnew:j=0\/(∃h:j≠0,zs[j-1]'(by omega)≠t)
   ·
    have hm1:Bin.more1 R t=R++[(1,t)]:=by
     rcases hnew with h0|⟨h0,h1⟩
     ·
      have:R=[]:=by
       have:=hrl
       rw[h0]at this
       exact zc (by omega)
      rw[this];rfl
     ·
      obtain⟨a,n,e⟩:=hlast h0
      rw[e,Bin.more1_snoc,if_neg h1];simp
    rw[hm1]at hmr
    have HMr:=hid hmr
    have HO:=hid ho
    obtain⟨Au,cu,eu,-⟩:=ho.form
    rw[zd]at eu
    subst eu
    have hbl':=zj hbl ho.below.size
    have hrl':R.length<=64:=by omega
    have hone:∀u∈(#[.int .i64 0,.int .i64 t]:Array Value).toList,u.oneCell'=true:=by intro u hu;simp at hu;rcases hu with rfl|rfl<;>rfl
    have HOne:=hid hone
    have t0:((j:Int)==0)=true\/∃k:Nat,j=k+1/\∃y,wr.cell? ⟨b,o+k,none⟩=some (.int .i64 y)/\(t==y)=false:=by
     rcases hnew with h0|⟨h0,h1⟩
     ·exact .inl (by rw[h0];rfl)
     ·
      refine .inr ⟨j-1,by omega,_,q (j-1) (by omega),?_⟩
      simpa using λe=>h1 e.symm
    clear ho hmr hm1 hlast hex hnew q hcell hone
    rcases t0 with t0|⟨k,rfl,y,qy,t1⟩
    ·
     go_wp2_with(first
      |(at_builtin;refine wpList_pushK rfl (.tmp 24) (.tmp 27) _ rfl 16 underlying225 elem_rn (by decide) _ _ _ rfl HO.out rfl (by simp) rfl HOne.out (by rw[zd];omega) (by rw[zd];unfold maxLen;omega) ?_;intro v6 w6 ho6 hk6 hs6;obtain⟨A6,c6,e6,-,-,hg6⟩:=ho6.formB (by decide);obtain⟨g6,-,rfl,-,hlt6,-⟩:=hg6 (by simp);rw[zz,zd,qg]at e6;subst e6;obtain⟨q6,f6,ho7⟩:=OwnK.bump (a:=R) (n:=0) (t:=t) (by simpa[rnC]using ho6);have HO7:=hid ho7;clear ho6 hk6 hs6 hg6 ho7))
     go_roundw
     case rel=>exact⟨j+1,by go_num,by omega,by simpa[HMr.out,rnC]using HO7.out⟩
     case measure=>simp[intOf];omega
    ·
     have t3:(((k:Int)+1)==0)=false:=by simp;omega
     have t4:(k:Int)<zs.length:=by omega
     go_wp2_with(first
      |(at_builtin;refine wpList_pushK rfl (.tmp 24) (.tmp 27) _ rfl 16 underlying225 elem_rn (by decide) _ _ _ rfl HO.out rfl (by simp) rfl HOne.out (by rw[zd];omega) (by rw[zd];unfold maxLen;omega) ?_;intro v6 w6 ho6 hk6 hs6;obtain⟨A6,c6,e6,-,-,hg6⟩:=ho6.formB (by decide);obtain⟨g6,-,rfl,-,hlt6,-⟩:=hg6 (by simp);rw[zz,zd,qg]at e6;subst e6;obtain⟨q6,f6,ho7⟩:=OwnK.bump (a:=R) (n:=0) (t:=t) (by simpa[rnC]using ho6);have HO7:=hid ho7;clear ho6 hk6 hs6 hg6 ho7))
     go_roundw
     case rel=>exact⟨k+1+1,by go_num,by omega,by simpa[HMr.out,rnC]using HO7.out⟩
     case measure=>simp[intOf];omega
   ·
    have hj0:j≠0:=λe=>hnew (.inl e)
    have hzt:zs[j-1]'(by omega)=t:=Classical.byContradiction λe=>hnew (.inr ⟨hj0,e⟩)
    obtain⟨a,n,rfl⟩:=hlast hj0
    rw[hzt]at ho hex hmr hrl
    rw[Bin.more1_snoc,if_pos rfl]at hmr
    have hn64:n<=64:=by
     have:=congrArg List.length hex
     rw[Bin.expd_append,zz,qh]at this
     simp[Bin.expd]at this
     omega
    have qk:=q (j-1) (by omega)
    rw[hzt]at qk
    obtain⟨k,rfl⟩:∃k,j=k+1:=⟨j-1,by omega⟩
    rw[Nat.add_sub_cancel]at qk
    obtain⟨Au,cu,eu,-,-,hgu⟩:=ho.formB (by decide)
    obtain⟨gu,-,rfl,-,hltu,-⟩:=hgu (by simp)
    rw[zd,zz,qg]at eu
    subst eu
    obtain⟨q6,f6,ho7⟩:=OwnK.bump ho
    have HO7:=hid ho7
    have HMr:=hid hmr
    have hbl':=zj hbl ho.below.size
    have t1:(t==t)=true:=by simp
    have t3:(((k:Int)+1)==0)=false:=by simp;omega
    have t4:(k:Int)<zs.length:=by omega
    have ha64:a.length<=64:=by rw[zz]at hrl;omega
    clear ho hmr hlast hex hnew q hcell hgu ho7 hzt
    go_wp2_with fail
    go_roundw
    case rel=>exact⟨k+1+1,by go_num,by omega,by simpa[HMr.out,rnC]using HO7.out⟩
    case measure=>simp[intOf];omega
  ·
   have hT:zs.take j=zs:=zo (by omega)
   rw[hT]at ho
   obtain⟨A',c',e',-⟩:=ho.form
   rw[zd]at e'
   subst e'
   have HO:=hid ho
   clear ho
   go_wp2_with fail
   go_ret
   exact⟨A',c',rfl,HO.out⟩
theorem runs1_any{W:Nat}{w0 w:World}{v u:Value}{bs:List UInt8}{bad:Bool}{B0:Nat}(x:Nat×Int)(h1:x.1<=64)(h2:inI x.2)(h:Wr W w0 w v u bs bad)(hB:Bx W w v B0 [pW W])(hL:bs.length+(Bin.pRun x).1.length<=100000000):
  Calls prog 182 #[.agg #[.int .i64 (x.1:Int),.int .i64 x.2],.pointer (some ⟨B0,0,none⟩)] w (WrP W w0 w v u bs bad (Bin.pRun x)):=by
 (try simp only[Bin.pRun,Bin.cat,zz]at hL)
 have HL:=hid hL
 have HC0:=hid (λw' v' bs' bad' (h':Wr W w0 w' v' u bs' bad') hl'=>number_any (x.1:Int) (by unfold inI;omega) h' hl')
 have HC1:=hid (λw' v' bs' bad' (h':Wr W w0 w' v' u bs' bad') hl'=>valueType_any x.2 h2 h' hl')
 have HS0:=hid (Wz.new h (λ_=>hB) [.int .i64 (x.1:Int),.int .i64 x.2] 224)
 have qb:=hB.cell 0 _ rfl
 have qn:=hB.lt
 clear h hL hB
 unfold WrP at HC0 HC1⊢
 go_enter func182,ntmps182
 go_wp2_with(first
  |(go_at_call 84;(with_reducible refine(HC0.out _ _ _ _ HS0.out.wr (by have:=HL.out;(try simp only[Bin.cat,zz]);omega)).mono ?_);rintro e w1 ⟨rfl,v1,hw,hk⟩;have HS1:=hid (HS0.out.step hw hk);have x1_0:=HS1.out.x.c 0 rfl;have x1_1:=HS1.out.x.c 1 rfl;have b1:=HS1.out.b.c 0 rfl;clear hw hk)
  |(go_at_call 92;(with_reducible refine(HC1.out _ _ _ _ HS1.out.wr (by have:=HL.out;(try simp only[Bin.cat,zz]);omega)).mono ?_);rintro e w2 ⟨rfl,v2,hw,hk⟩;have HS2:=hid (HS1.out.step hw hk);have b2:=HS2.out.b.c 0 rfl;clear hw hk))
 go_end0
 exact⟨rfl,v2,HS2.out.wr.eq (by simp[Bin.pRun,Bin.cat]) (by cases bad<;>simp[Bin.pRun,Bin.cat,Bin.pByte,Bin.pFlag,jz,qo]),HS2.out.k⟩
theorem Lst.own{W:Nat}{w0 w1 w2:World}{v u:Value}{bs:List UInt8}{bad:Bool}{e:TypeId}{k:Nat}{A:Option Addr}{n c:Nat}{rs:List (List Value)}(h:Wr W w0 w1 v u bs bad)(ho:OwnK w1.heap.size w1 w2 e k (.slice A n c) rs)(hk:0<k):Lst W w2 v A k rs:=by
 obtain⟨A',c',e',-,-,hg⟩:=ho.formB hk
 injection e' with e1 e2 e3
 subst e1
 intro w' v' hK hne
 obtain⟨g,hgo,hA,hge,hgl,hcell⟩:=hg hne
 refine⟨g,0,hA,zj hgl hK.size,λi r hi j hj=>?_⟩
 have hlt:=h.lt
 have hkeep:=hK.keep g hgl (by omega) (h.ob.new hge)
 rw[qz,zm hkeep.1]
 exact hcell i r hi j hj
theorem code_any{W:Nat}{w0 w:World}{v u:Value}{bs:List UInt8}{bad:Bool}(x:Fn)(hx:x.ok w0 w0.heap.size)(hN:Nam w0)(hwt:wt x.bo.f<=2200000)(hs:x.lo.zs.length<=64)(h:Wr W w0 w v u bs bad)(hL:bs.length+(Bin.pCode (kFn x).2).1.length<=100000000):
  Calls prog 108 #[pW W,.agg #[.int .i64 x.ty,.slice x.lo.A x.lo.zs.length x.lo.c,.slice x.bo.A (len x.bo.f) x.bo.c]] w (WrP W w0 w v u bs bad (Bin.pCode (kFn x).2)):=by
 have HL:=hid hL
 have hbo:=h.below
 have HX:=hid hx
 have hbr:=Bx.new h #[pW W] 66 _ rfl rfl
 have hwa:=h.alloc (.cells #[pW W] 66)
 have hb2:=hbr.alloc (.cells #[.int .i64 x.ty,.slice x.lo.A x.lo.zs.length x.lo.c,.slice x.bo.A (len x.bo.f) x.bo.c] 55)
 have hx2:=Bx.new hwa #[.int .i64 x.ty,.slice x.lo.A x.lo.zs.length x.lo.c,.slice x.bo.A (len x.bo.f) x.bo.c] 55 (w.heap.size+1) (by simp) rfl
 have hwb:=hwa.alloc (.cells #[.int .i64 x.ty,.slice x.lo.A x.lo.zs.length x.lo.c,.slice x.bo.A (len x.bo.f) x.bo.c] 55)
 have hkb:Kw W w v ((w.alloc (.cells #[pW W] 66)).alloc (.cells #[.int .i64 x.ty,.slice x.lo.A x.lo.zs.length x.lo.c,.slice x.bo.A (len x.bo.f) x.bo.c] 55)) v:=(Kw.refl_.alloc _).alloc _
 have HR:=hid (λ(w':World) (hb:Below w0.heap.size w0 w')=>runs_any x.lo w' (hx.lo.keep hb.size (Below.kp hb)) hs)
 have hrl:=runs_len x.lo.zs
 have hmem:∀y∈Bin.runs x.lo.zs,y.1<=64/\inI y.2:=by
  intro y hy
  refine⟨?_,Bin.runs_all inI _ hx.lo.inI y hy⟩
  have e:=Bin.expd_len (Bin.runs x.lo.zs)
  rw[Bin.expd_runs]at e
  have:=Bin.mem_sum (qp (f:=(·.1)) hy)
  omega
 have HM:=hid hmem
 have HWb:=hid hwb
 have HKb:=hid hkb
 have HBb:=hid hb2
 have HXb:=hid hx2
 have HNN:=hid hN
 clear hL hx h hbr hwa hb2 hx2 hwb hkb hmem hN hbo
 unfold WrP
 go_enter func108,ntmps108
 go_wp2_with fail
 obtain⟨W1,hW1⟩:∃W1:World,W1=((w.alloc (.cells #[pW W] 66)).alloc (.cells #[.int .i64 x.ty,.slice x.lo.A x.lo.zs.length x.lo.c,.slice x.bo.A (len x.bo.f) x.bo.c] 55)).drew:=⟨_,rfl⟩
 have HW1:Hid (Wr W w0 W1 v u bs bad):=hid (by rw[hW1];exact HWb.out.drewN 1)
 have HK1:Hid (Kw W w v W1 v):=hid (by rw[hW1];exact HKb.out.drewN 1)
 have HB1:Hid (Bx W W1 v w.heap.size [pW W]):=hid (by rw[hW1];exact⟨HBb.out.cell,HBb.out.ne,HBb.out.nv,HBb.out.lt⟩)
 have HX1:Hid (Bx W W1 v (w.heap.size+1) [.int .i64 x.ty,.slice x.lo.A x.lo.zs.length x.lo.c,.slice x.bo.A (len x.bo.f) x.bo.c]):=hid (by rw[hW1];exact⟨HXb.out.cell,HXb.out.ne,HXb.out.nv,HXb.out.lt⟩)
 refine wp_region_held_drew (S:=λw'=>w'.cell? ⟨w.heap.size,0,none⟩=some (pW W)/\w'.cell? ⟨w.heap.size+1,1,none⟩=some (.slice x.lo.A x.lo.zs.length x.lo.c)) (by kernel_rfl) (by rw[<-hW1];exact⟨HB1.out.cell 0 _ rfl,HX1.out.cell 1 _ rfl⟩) (λhHeld=>?_)
 rw[<-hW1]at hHeld⊢
 clear hW1 HWb HKb HBb HXb
 refine rtk 0 4 ?_
 refine rtk 1 5 ?_
 refine rtk 2 6 ?_
 refine rtk 4 8 ?_
 refine rcl 3 λK hK=>?_
 go_simp
 refine(HR.out W1 HW1.out.below).mono ?_
 rintro e w2 ⟨A2,c2,rfl,ho2⟩
 have HW2:=hid (HW1.out.later ho2.below)
 have HK2:=hid (HK1.out.trans (Kw.of_below ho2.below))
 have HB2:=hid (HB1.out.later ho2.below)
 have HX2:=hid (HX1.out.later ho2.below)
 have HO2:=hid (Lst.own HW1.out ho2 (by decide))
 clear ho2
 go_wp2_with fail
 refine rbk hK ⟨HB2.out.cell 0 _ rfl,HX2.out.cell 1 _ rfl⟩ λhHeld=>?_;clear hK K
 refine rcl 5 λK hK=>?_
 go_simp
 refine(wlist_any .Rn Bin.pRun (Bin.runs x.lo.zs) A2 c2 (by omega) HW2.out HB2.out HO2.out (by have:=HL.out;simp only[Bin.pCode,kFn,Bin.cat,Bin.pLoc,zz]at this;omega) (λy hy w' v' bs' bad' hw hb hl'=>runs1_any y (HM.out y hy).1 (HM.out y hy).2 hw hb hl')).mono ?_
 unfold WrP
 rintro e w3 ⟨rfl,v3,hw3,hk3⟩
 have HW3:=hid hw3
 have HK3:=hid (HK2.out.trans hk3)
 have HX3:=hid (HX2.out.kw hk3)
 have HB3:=hid (HB2.out.kw hk3)
 clear hw3 hk3
 go_wp2_with fail
 refine rbk hK ⟨HB3.out.cell 0 _ rfl,HX3.out.cell 1 _ rfl⟩ λhHeld=>?_;clear hK K
 refine wpAnyH_done (by kernel_rfl) ?_ _
 have b3:=HB3.out.cell 0 _ rfl
 have x3:=HX3.out.cell 2 _ rfl
 clear hHeld
 go_wp2_with fail
 refine(wexpr_any x.bo.f x.bo.A x.bo.c HNN.out (HX.out.bo.rd.keep HW3.out.below.size (Below.kp HW3.out.below)) (zy HX.out.bo.le HX.out.bo.c) hwt HW3.out (by have:=HL.out;simp only[Bin.pCode,kFn,Bin.cat,Bin.pLoc,zz]at this⊢;omega)).mono ?_
 unfold WrP
 rintro e w4 ⟨rfl,v4,hw4,hk4⟩
 have HW4:=hid hw4
 have HK4:=hid (HK3.out.trans hk4)
 clear hw4 hk4
 go_wp2_with fail
 go_end0
 exact⟨rfl,v4,HW4.out.eq (by simp[Bin.pCode,kFn,Bin.cat,Bin.pLoc]) (by cases bad<;>simp[Bin.pCode,kFn,Bin.cat,Bin.pLoc]),HK4.out⟩
theorem Wr.clear{W:Nat}{w0 w:World}{v u:Value}{bs:List UInt8}{bad:Bool}(h:Wr W w0 w v u bs bad):Wr W w0 (w.setCell ⟨W,0,none⟩ (.slice none 0 0)) (.slice none 0 0) u [] bad:=
 ⟨h.hW,ze _ _ _ h.c0,(zk _ _ _ _ (by simp)).trans h.c1,(zk _ _ _ _ (by simp)).trans h.c2,λi=>(za _ _ _ _).trans (h.fr i),
  OwnK.nil_ _ _ _ _ (h.below.setCell h.hW _) (by have:=h.below.size;simpa[World.setCell]using this),by simp[Value.ownBlock]⟩
theorem Wr.back{W:Nat}{w0 w w2:World}{v u v2:Value}{bs nb:List UInt8}{bad bad2:Bool}(h:Wr W w0 w v u bs bad)(h2:Wr W w0 w2 v2 u nb bad2)(hk:Kw W w (.slice none 0 0) w2 v2):
  Wr W w0 (w2.setCell ⟨W,0,none⟩ v) v u bs bad2/\Kw W w (.slice none 0 0) (w2.setCell ⟨W,0,none⟩ v) (.slice none 0 0)/\
  ∃A c,v2=.slice A nb.length c/\nb.length<=c/\c<=maxLen/\NewS (Win w.heap.size (w2.setCell ⟨W,0,none⟩ v)) (w2.setCell ⟨W,0,none⟩ v) (w2.setCell ⟨W,0,none⟩ v).heap.size A (u8s nb):=by
 have hsz:(w2.setCell ⟨W,0,none⟩ v).heap.size=w2.heap.size:=by simp[World.setCell]
 refine⟨⟨h.hW,ze _ _ _ h2.c0,(zk _ _ _ _ (by simp)).trans h2.c1,(zk _ _ _ _ (by simp)).trans h2.c2,λi=>(za _ _ _ _).trans (h2.fr i),?_,h.vW⟩,⟨λm hm hW _=>⟨(qa _ _ _ _ hW).trans (hk.keep m hm hW (by simp[Value.ownBlock])).1,by simp[Value.ownBlock]⟩,by rw[hsz];exact hk.size⟩,?_⟩
 ·
  refine⟨⟨h.ob.row.1,?_⟩,h.ob.len,h2.below.setCell h.hW _,by rw[hsz];exact h2.ob.le⟩
  rcases h.ob.row.2 with h3|⟨g,cap,cur,e,hg,hcur,hrest⟩
  ·exact .inl h3
  ·
   refine .inr ⟨g,cap,cur,e,hg,?_,hrest⟩
   have hgl:g<w.heap.size:=(h.ob.own_lt (by rw[e];rfl)).2
   have hgW:g≠W:=λe2=>h.vW (by rw[e,<-e2];rfl)
   rw[qa _ _ _ _ hgW,(hk.keep g hgl hgW (by simp[Value.ownBlock])).1]
   exact hcur
 ·
  obtain⟨A,c,e,hl,hm,hg⟩:=OwnK.formB h2.ob (by decide)
  rw[ones_length,u8s_length]at e hl
  subst e
  refine⟨A,c,rfl,hl,hm,λw' ha=>RowsAt.sl λhne=>?_⟩
  obtain⟨g,hgo,hA,hge,hgl,hcell⟩:=hg hne
  have hgW:g≠W:=λe2=>h2.vW (by rw[hgo,e2])
  have hgn:w.heap.size<=g:=by
   rcases qm g w.heap.size with h3|h3
   ·exact absurd hgo (hk.keep g h3 hgW (by simp[Value.ownBlock])).2
   ·exact h3
  refine⟨g,0,hA,by rw[hsz];exact hgl,λi r hi j hj=>?_⟩
  rw[qz,ha g _ ⟨hgn,by rw[hsz];exact hgl⟩,zk _ _ _ _ (by simp[hgW])]
  exact hcell i r hi j hj
def PartP(W:Nat)(w0 w:World)(v u:Value)(bs:List UInt8)(bad:Bool)(pc:Bin.Pc):Ending->World->Prop:=λe w'=>∃A c,e=.returned (.slice A pc.1.length c)/\pc.1.length<=c/\c<=maxLen/\NewS (Win w.heap.size w') w' w'.heap.size A (u8s pc.1)/\
 Wr W w0 w' v u bs (bad || !pc.2)/\Kw W w (.slice none 0 0) w' (.slice none 0 0)
theorem part_any(k:Nat)(hk:∀(a:Array Value) (w:World),Sem.run prog (callFunc k a) w=.ok (.enter k a) w)(caps:Array Value)(pc:Bin.Pc){W:Nat}{w0 w:World}{v u:Value}{bs:List UInt8}{bad:Bool}(h:Wr W w0 w v u bs bad)
  (H:∀w',Wr W w0 w' (.slice none 0 0) u [] bad->Kw W w (.slice none 0 0) w' (.slice none 0 0)->Calls prog k caps w' (WrP W w0 w' (.slice none 0 0) u [] bad pc)):
  Calls prog 106 #[pW W,.func (.func k) #[] caps] w (PartP W w0 w v u bs bad pc):=by
 have c0:=h.c0
 have f0:=h.fr 0
 have hlt:=h.lt
 have HW:=hid h
 have HC:=hid (H _ h.clear (Kw.refl_.set 0 _))
 obtain⟨A0,n0,cc0,rfl⟩:=h.ob.is_slice
 clear h H
 unfold PartP
 unfold WrP at HC
 go_enter func106,ntmps106
 go_wp2_with fail
 refine HC.out.mono ?_
 rintro e w2 ⟨rfl,v2,hw2,hk2⟩
 have g0:=hw2.c0
 have gf:=hw2.fr 0
 obtain⟨h3,hk3,A,c,rfl,hl3,hm3,hn3⟩:=HW.out.back hw2 (((Kw.refl_ (W:=W) (w:=w) (v:=.slice none 0 0)).set 0 (.slice none 0 0)).trans hk2)
 have H3:=hid h3
 have HK3:=hid hk3
 have HN3:=hid hn3
 have HL3:=hid hl3
 have HM3:=hid hm3
 clear hw2 hk2 h3 hk3 hn3 hl3 hm3
 go_wp2_with fail
 go_ret
 refine⟨A,c,?_,?_,HM3.out,?_,H3.out,HK3.out⟩
 ·simp
 ·simpa using HL3.out
 ·simpa using HN3.out
end Go.Proofs.YteoijlfipmaoeaaGreatDoor
