/- Contracts of bytes.Equal, of tree's same.. of each part of a module, and of slices.EqualFunc of lists of them. -/
import Derived.Test.YtmdgemdollfnhaaGreatDoorTreeS2
namespace Go.Proofs.YtmdgemdollfnhaaGreatDoor
open Go.RowKit Trx

set_option maxRecDepth 100000 in
theorem eqByte_any (x y : BL) (w : World) (hx : x.ok w w.heap.size) (hy : y.ok w w.heap.size) :
    Calls Tryz.prog 66 #[.slice x.A x.bs.length x.c, .slice y.A y.bs.length y.c] w (Tells (x.bs = y.bs) w) := by
  have c1 := run_str_of (P := Tryz.prog) 59 9 5 Tryz.underlying59 Tryz.underlying5 Tryz.underlying9 hx.sl x.c
  have c2 := run_str_of (P := Tryz.prog) 59 9 5 Tryz.underlying59 Tryz.underlying5 Tryz.underlying9 hy.sl y.c
  clear hx hy
  go_enter Tryz.func66, Tryz.ntmps66
  go_wp2_with fail
  go_ret
  exact Tells.mk_ _ (by simp) (Below.refl _ _)
theorem str_ext {a b : ByteArray} (h : a.toList = b.toList) : a = b := by
  apply Go.WideShapes.bytes_inj
  rw [← Lib.toList_data, ← Lib.toList_data, h]
theorem sameOne (i k : In) (w : World) (hi : i.ok w w.heap.size) (hk : k.ok w w.heap.size) : Calls Tryz.prog 65 #[inA i, inA k] w (Tells (i.n = k.n) w) :=
  sameIns_any i k w hi hk
    (fun _ h => sameCode_any _ _ _ _ _ _ _ _ (Nat.le_refl _) ((hi.nd.body.below h).more h.size) ((hk.nd.body.below h).more h.size) hi.light.body hk.light.body (Nat.le_trans hi.nd.num.hb hi.nd.num.cb) (Nat.le_trans hk.nd.num.hb hk.nd.num.cb))
    (fun _ h => sameCode_any _ _ _ _ _ _ _ _ (Nat.le_refl _) ((hi.nd.els.below h).more h.size) ((hk.nd.els.below h).more h.size) hi.light.els hk.light.els (Nat.le_trans hi.nd.num.he hi.nd.num.ce) (Nat.le_trans hk.nd.num.he hk.nd.num.ce))

def eqTy (x y : Ty) : Prop := x.p.zs = y.p.zs ∧ x.r.zs = y.r.zs
def tyA (x : Ty) : Value := .agg #[.slice x.p.A x.p.zs.length x.p.c, .slice x.r.A x.r.zs.length x.r.c]
set_option maxHeartbeats 16000000 in
set_option maxRecDepth 100000 in
theorem sameType_any (x y : Ty) (w : World) (hx : x.ok w w.heap.size) (hy : y.ok w w.heap.size) :
    Calls Tryz.prog 37 #[tyA x, tyA y] w (Tells (eqTy x y) w) := by
  unfold tyA eqTy
  have H1 := Lib.hid (fun w' (h : Below w.heap.size w w') => eqInt_any x.p y.p w' (hx.p.keep h.size (Below.kp h)) (hy.p.keep h.size (Below.kp h)))
  have H2 := Lib.hid (fun w' (h : Below w.heap.size w w') => eqInt_any x.r y.r w' (hx.r.keep h.size (Below.kp h)) (hy.r.keep h.size (Below.kp h)))
  clear hx hy
  go_enter Tryz.func37, Tryz.ntmps37
  go_wp2_with (first
    | (go_at_call 63; ((with_reducible refine (H1.out _ (((Below.refl _ _).alloc (Nat.le_refl _) _).alloc (by simp) _)).mono ?_); rintro e w1 ⟨⟨b1, rfl, hb1⟩, hbel⟩; obtain ⟨hlt1, hc, hd, hw⟩ := two_box hbel; have c := hc 1; have d := hd 1; simp at c d; have HP1 := Lib.hid hb1; have HW1 := Lib.hid hw; clear hbel hc hd hw hb1))
    | (go_at_call 63; ((with_reducible refine (H2.out _ HW1.out).mono ?_); rintro e w2 ⟨⟨b2, rfl, hb2⟩, hbel⟩; have HP2 := Lib.hid hb2; have HW2 := Lib.hid (HW1.out.trans (hbel.mono HW1.out.size)); clear hbel hb2)))
  all_goals
    go_ret
    first
    | exact Tells.mk_ _ (by have p1 := HP1.out; have p2 := HP2.out; simp_all) HW2.out
    | exact Tells.mk_ _ (by have p1 := HP1.out; simp_all) HW1.out

def eqFn (x y : Fn) : Prop := x.ty = y.ty ∧ x.lo.zs = y.lo.zs ∧ x.bo.f = y.bo.f
def fnA (x : Fn) : Value := .agg #[.int .i64 x.ty, .slice x.lo.A x.lo.zs.length x.lo.c, .slice x.bo.A (len x.bo.f) x.bo.c]
set_option maxHeartbeats 16000000 in
set_option maxRecDepth 100000 in
theorem sameFunc_any (x y : Fn) (w : World) (hx : x.ok w w.heap.size) (hy : y.ok w w.heap.size) :
    Calls Tryz.prog 40 #[fnA x, fnA y] w (Tells (eqFn x y) w) := by
  unfold fnA eqFn
  have H1 := Lib.hid (fun w' (h : Below w.heap.size w w') => eqInt_any x.lo y.lo w' (hx.lo.keep h.size (Below.kp h)) (hy.lo.keep h.size (Below.kp h)))
  have H2 := Lib.hid (fun w' (h : Below w.heap.size w w') => sameCode_any _ x.bo.f y.bo.f x.bo.A y.bo.A x.bo.c y.bo.c w' (Nat.le_refl _) (hx.bo.keep h.size (Below.kp h)).rd (hy.bo.keep h.size (Below.kp h)).rd hx.bo.light hy.bo.light (Nat.le_trans hx.bo.le hx.bo.c) (Nat.le_trans hy.bo.le hy.bo.c))
  clear hx hy
  by_cases g1 : x.ty = y.ty
  rotate_left
  · have tt : (x.ty == y.ty) = false := by simpa using g1
    have HN := Lib.hid g1
    clear g1
    go_enter Tryz.func40, Tryz.ntmps40
    go_wp2_with fail
    go_ret
    exact Tells.mk_ _ (by simp [HN.out]) (((Below.refl _ _).alloc (Nat.le_refl _) _).alloc (by simp) _)
  have HH := Lib.hid (show x.ty = y.ty from g1)
  rw [g1]
  have t1 : (y.ty == y.ty) = true := by simp
  clear g1
  go_enter Tryz.func40, Tryz.ntmps40
  go_wp2_with (first
    | (go_at_call 63; ((with_reducible refine (H1.out _ (((Below.refl _ _).alloc (Nat.le_refl _) _).alloc (by simp) _)).mono ?_); rintro e w1 ⟨⟨b1, rfl, hb1⟩, hbel⟩; obtain ⟨hlt1, hc, hd, hw⟩ := two_box hbel; have c := hc 2; have d := hd 2; simp at c d; have HP1 := Lib.hid hb1; have HW1 := Lib.hid hw; clear hbel hc hd hw hb1))
    | (go_at_call 64; ((with_reducible refine (H2.out _ HW1.out).mono ?_); rintro e w2 ⟨⟨b2, rfl, hb2⟩, hbel⟩; have HP2 := Lib.hid hb2; have HW2 := Lib.hid (HW1.out.trans (hbel.mono HW1.out.size)); clear hbel hb2)))
  all_goals
    go_ret
    first
    | exact Tells.mk_ _ (by have h := HH.out; have p1 := HP1.out; have p2 := HP2.out; simp_all) HW2.out
    | exact Tells.mk_ _ (by have h := HH.out; have p1 := HP1.out; simp_all) HW1.out

def eqGl (x y : Gl) : Prop := x.ty = y.ty ∧ x.mu = y.mu ∧ x.i.n = y.i.n
def glA (x : Gl) : Value := .agg #[.int .i64 x.ty, .bool x.mu, .int .i64 x.i.n.op, .int .i64 x.i.n.a, .int .i64 x.i.n.b, .int .u64 x.i.n.v, .int .i64 x.i.n.t, .slice x.i.p.AL x.i.n.L.length x.i.p.cL, .slice x.i.p.Ab (len x.i.n.body) x.i.p.cb, .slice x.i.p.Ae (len x.i.n.els) x.i.p.ce, .bool x.i.n.he]
set_option maxHeartbeats 16000000 in
set_option maxRecDepth 100000 in
theorem sameGlobal_any (x y : Gl) (w : World) (hx : x.ok w w.heap.size) (hy : y.ok w w.heap.size) :
    Calls Tryz.prog 43 #[glA x, glA y] w (Tells (eqGl x y) w) := by
  unfold glA eqGl
  have H1 := Lib.hid (fun w' (h : Below w.heap.size w w') => sameOne x.i y.i w' (hx.i.keep h.size (Below.kp h)) (hy.i.keep h.size (Below.kp h)))
  unfold inA at H1
  clear hx hy
  by_cases g1 : x.ty = y.ty
  rotate_left
  · have tt : (x.ty == y.ty) = false := by simpa using g1
    have HN := Lib.hid g1
    clear g1
    go_enter Tryz.func43, Tryz.ntmps43
    go_wp2_with fail
    go_ret
    exact Tells.mk_ _ (by simp [HN.out]) (((Below.refl _ _).alloc (Nat.le_refl _) _).alloc (by simp) _)
  by_cases g2 : x.mu = y.mu
  rotate_left
  · have tt : (x.mu == y.mu) = false := by revert g2; cases x.mu <;> cases y.mu <;> simp
    have HN := Lib.hid g2
    rw [g1]
    have t1 : (y.ty == y.ty) = true := by simp
    clear g1 g2
    go_enter Tryz.func43, Tryz.ntmps43
    go_wp2_with fail
    go_ret
    exact Tells.mk_ _ (by simp [HN.out]) (((Below.refl _ _).alloc (Nat.le_refl _) _).alloc (by simp) _)
  have HH := Lib.hid (show x.ty = y.ty ∧ x.mu = y.mu from ⟨g1, g2⟩)
  rw [g1]
  have t1 : (y.ty == y.ty) = true := by simp
  rw [g2]
  have t2 : (y.mu == y.mu) = true := by simp
  clear g1 g2
  go_enter Tryz.func43, Tryz.ntmps43
  go_wp2_with (first
    | (go_at_call 65; ((with_reducible refine (H1.out _ (((Below.refl _ _).alloc (Nat.le_refl _) _).alloc (by simp) _)).mono ?_); rintro e w1 ⟨⟨b1, rfl, hb1⟩, hbel⟩; obtain ⟨hlt1, hc, hd, hw⟩ := two_box hbel; have HP1 := Lib.hid hb1; have HW1 := Lib.hid hw; clear hbel hc hd hw hb1)))
  all_goals
    go_ret
    first
    | exact Tells.mk_ _ (by have h := HH.out; have p1 := HP1.out; simp_all) HW1.out

def eqEl (x y : El) : Prop := x.i.n = y.i.n ∧ x.fs.zs = y.fs.zs
def elA (x : El) : Value := .agg #[.int .i64 x.i.n.op, .int .i64 x.i.n.a, .int .i64 x.i.n.b, .int .u64 x.i.n.v, .int .i64 x.i.n.t, .slice x.i.p.AL x.i.n.L.length x.i.p.cL, .slice x.i.p.Ab (len x.i.n.body) x.i.p.cb, .slice x.i.p.Ae (len x.i.n.els) x.i.p.ce, .bool x.i.n.he, .slice x.fs.A x.fs.zs.length x.fs.c]
set_option maxHeartbeats 16000000 in
set_option maxRecDepth 100000 in
theorem sameElem_any (x y : El) (w : World) (hx : x.ok w w.heap.size) (hy : y.ok w w.heap.size) :
    Calls Tryz.prog 46 #[elA x, elA y] w (Tells (eqEl x y) w) := by
  unfold elA eqEl
  have H1 := Lib.hid (fun w' (h : Below w.heap.size w w') => sameOne x.i y.i w' (hx.i.keep h.size (Below.kp h)) (hy.i.keep h.size (Below.kp h)))
  unfold inA at H1
  have H2 := Lib.hid (fun w' (h : Below w.heap.size w w') => eqInt_any x.fs y.fs w' (hx.fs.keep h.size (Below.kp h)) (hy.fs.keep h.size (Below.kp h)))
  clear hx hy
  go_enter Tryz.func46, Tryz.ntmps46
  go_wp2_with (first
    | (go_at_call 65; ((with_reducible refine (H1.out _ (((Below.refl _ _).alloc (Nat.le_refl _) _).alloc (by simp) _)).mono ?_); rintro e w1 ⟨⟨b1, rfl, hb1⟩, hbel⟩; obtain ⟨hlt1, hc, hd, hw⟩ := two_box hbel; have c := hc 9; have d := hd 9; simp at c d; have HP1 := Lib.hid hb1; have HW1 := Lib.hid hw; clear hbel hc hd hw hb1))
    | (go_at_call 63; ((with_reducible refine (H2.out _ HW1.out).mono ?_); rintro e w2 ⟨⟨b2, rfl, hb2⟩, hbel⟩; have HP2 := Lib.hid hb2; have HW2 := Lib.hid (HW1.out.trans (hbel.mono HW1.out.size)); clear hbel hb2)))
  all_goals
    go_ret
    first
    | exact Tells.mk_ _ (by have p1 := HP1.out; have p2 := HP2.out; simp_all) HW2.out
    | exact Tells.mk_ _ (by have p1 := HP1.out; simp_all) HW1.out

def eqDa (x y : Da) : Prop := x.i.n = y.i.n ∧ x.bs.bs = y.bs.bs
def daA (x : Da) : Value := .agg #[.int .i64 x.i.n.op, .int .i64 x.i.n.a, .int .i64 x.i.n.b, .int .u64 x.i.n.v, .int .i64 x.i.n.t, .slice x.i.p.AL x.i.n.L.length x.i.p.cL, .slice x.i.p.Ab (len x.i.n.body) x.i.p.cb, .slice x.i.p.Ae (len x.i.n.els) x.i.p.ce, .bool x.i.n.he, .slice x.bs.A x.bs.bs.length x.bs.c]
set_option maxHeartbeats 16000000 in
set_option maxRecDepth 100000 in
theorem sameData_any (x y : Da) (w : World) (hx : x.ok w w.heap.size) (hy : y.ok w w.heap.size) :
    Calls Tryz.prog 48 #[daA x, daA y] w (Tells (eqDa x y) w) := by
  unfold daA eqDa
  have H1 := Lib.hid (fun w' (h : Below w.heap.size w w') => sameOne x.i y.i w' (hx.i.keep h.size (Below.kp h)) (hy.i.keep h.size (Below.kp h)))
  unfold inA at H1
  have H2 := Lib.hid (fun w' (h : Below w.heap.size w w') => eqByte_any x.bs y.bs w' (hx.bs.keep h.size (Below.kp h)) (hy.bs.keep h.size (Below.kp h)))
  clear hx hy
  go_enter Tryz.func48, Tryz.ntmps48
  go_wp2_with (first
    | (go_at_call 65; ((with_reducible refine (H1.out _ (((Below.refl _ _).alloc (Nat.le_refl _) _).alloc (by simp) _)).mono ?_); rintro e w1 ⟨⟨b1, rfl, hb1⟩, hbel⟩; obtain ⟨hlt1, hc, hd, hw⟩ := two_box hbel; have c := hc 9; have d := hd 9; simp at c d; have HP1 := Lib.hid hb1; have HW1 := Lib.hid hw; clear hbel hc hd hw hb1))
    | (go_at_call 66; ((with_reducible refine (H2.out _ HW1.out).mono ?_); rintro e w2 ⟨⟨b2, rfl, hb2⟩, hbel⟩; have HP2 := Lib.hid hb2; have HW2 := Lib.hid (HW1.out.trans (hbel.mono HW1.out.size)); clear hbel hb2)))
  all_goals
    go_ret
    first
    | exact Tells.mk_ _ (by have p1 := HP1.out; have p2 := HP2.out; simp_all) HW2.out
    | exact Tells.mk_ _ (by have p1 := HP1.out; simp_all) HW1.out

def eqCu (x y : Cu) : Prop := x.nm = y.nm ∧ x.bs.bs = y.bs.bs
def cuA (x : Cu) : Value := .agg #[.string x.nm, .slice x.bs.A x.bs.bs.length x.bs.c]
set_option maxHeartbeats 16000000 in
set_option maxRecDepth 100000 in
theorem sameCustom_any (x y : Cu) (w : World) (hx : x.ok w w.heap.size) (hy : y.ok w w.heap.size) :
    Calls Tryz.prog 50 #[cuA x, cuA y] w (Tells (eqCu x y) w) := by
  unfold cuA eqCu
  have H1 := Lib.hid (fun w' (h : Below w.heap.size w w') => eqByte_any x.bs y.bs w' (hx.bs.keep h.size (Below.kp h)) (hy.bs.keep h.size (Below.kp h)))
  clear hx hy
  by_cases g1 : x.nm = y.nm
  rotate_left
  · have tt : (x.nm.toList == y.nm.toList) = false := by simp; exact fun e => g1 (str_ext e)
    have HN := Lib.hid g1
    clear g1
    go_enter Tryz.func50, Tryz.ntmps50
    go_wp2_with fail
    go_ret
    exact Tells.mk_ _ (by simp [HN.out]) (((Below.refl _ _).alloc (Nat.le_refl _) _).alloc (by simp) _)
  have HH := Lib.hid (show x.nm = y.nm from g1)
  rw [g1]
  have t1 : (y.nm.toList == y.nm.toList) = true := by simp
  clear g1
  go_enter Tryz.func50, Tryz.ntmps50
  go_wp2_with (first
    | (go_at_call 66; ((with_reducible refine (H1.out _ (((Below.refl _ _).alloc (Nat.le_refl _) _).alloc (by simp) _)).mono ?_); rintro e w1 ⟨⟨b1, rfl, hb1⟩, hbel⟩; obtain ⟨hlt1, hc, hd, hw⟩ := two_box hbel; have HP1 := Lib.hid hb1; have HW1 := Lib.hid hw; clear hbel hc hd hw hb1)))
  all_goals
    go_ret
    first
    | exact Tells.mk_ _ (by have h := HH.out; have p1 := HP1.out; simp_all) HW1.out

end Go.Proofs.YtmdgemdollfnhaaGreatDoor
