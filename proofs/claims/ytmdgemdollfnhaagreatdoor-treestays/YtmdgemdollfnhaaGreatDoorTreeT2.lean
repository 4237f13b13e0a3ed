/- Contracts of small.. of the parts of a module, and of all of them. -/
import Derived.Test.YtmdgemdollfnhaaGreatDoorTreeT1
namespace Go.Proofs.YtmdgemdollfnhaaGreatDoor
open Go.RowKit Trx

set_option maxHeartbeats 8000000 in
set_option maxRecDepth 100000 in
theorem smallName_any (x : ByteArray) (w : World) (h : StrOk x) : Calls Tryz.prog 60 #[.string x] w fun e w' => e = .returned (.bool (decide (x.size ≤ 64))) ∧ w = w' := by
  have hm := h.m
  unfold maxLen at hm
  clear h
  by_cases h1 : x.size ≤ 64
  · have t1 : decide ((x.size : Int) ≤ 64) = true := leT h1
    rw [decide_eq_true h1]
    clear h1
    go_enter Tryz.func60, Tryz.ntmps60
    go_wp2_with fail
    go_ret
    exact ⟨rfl, rfl⟩
  · have t1 : decide ((x.size : Int) ≤ 64) = false := leF h1
    rw [decide_eq_false h1]
    clear h1
    go_enter Tryz.func60, Tryz.ntmps60
    go_wp2_with fail
    go_ret
    exact ⟨rfl, rfl⟩

def smTy (x : Ty) : Bool := decide (x.p.zs.length ≤ 64) && decide (x.r.zs.length ≤ 64)
set_option maxHeartbeats 8000000 in
set_option maxRecDepth 100000 in
theorem smallType_any (x : Ty) (w : World) (hN : Nam w) (hx : x.ok w w.heap.size) : Calls Tryz.prog 21 #[.agg #[.slice x.p.A x.p.zs.length x.p.c, .slice x.r.A x.r.zs.length x.r.c]] w fun e w' => e = .returned (.bool (smTy x)) ∧ Below w.heap.size w w' := by
  unfold smTy
  have m1 := Nat.le_trans hx.p.le hx.p.c
  have m2 := Nat.le_trans hx.r.le hx.r.c
  unfold maxLen at m1 m2
  clear hx hN
  by_cases h1 : x.p.zs.length ≤ 64
  · have t1 : decide ((x.p.zs.length : Int) ≤ 64) = true := leT h1
    rw [decide_eq_true h1]
    clear h1
    by_cases h2 : x.r.zs.length ≤ 64
    · have t2 : decide ((x.r.zs.length : Int) ≤ 64) = true := leT h2
      rw [decide_eq_true h2]
      clear h2
      go_enter Tryz.func21, Tryz.ntmps21
      go_wp2_with fail
      go_ret
      exact ⟨by simp, ((Below.refl _ _).alloc (Nat.le_refl _) _)⟩
    · have t2 : decide ((x.r.zs.length : Int) ≤ 64) = false := leF h2
      rw [decide_eq_false h2]
      clear h2
      go_enter Tryz.func21, Tryz.ntmps21
      go_wp2_with fail
      go_ret
      exact ⟨by simp, ((Below.refl _ _).alloc (Nat.le_refl _) _)⟩
  · have t1 : decide ((x.p.zs.length : Int) ≤ 64) = false := leF h1
    rw [decide_eq_false h1]
    clear h1
    go_enter Tryz.func21, Tryz.ntmps21
    go_wp2_with fail
    go_ret
    exact ⟨by simp, ((Below.refl _ _).alloc (Nat.le_refl _) _)⟩
set_option maxHeartbeats 8000000 in
set_option maxRecDepth 100000 in
theorem allTy_any (s : SL Ty) (w : World) (hN : Nam w) (hs : s.ok Ty.cells Ty.ok 2 48 w w.heap.size) :
    Calls Tryz.prog 20 #[.slice s.A s.l.length s.c, .func (.func 21) #[] #[]] w fun e w' => e = .returned (.bool (s.l.all smTy)) ∧ Below w.heap.size w w' := by
  have hm := Nat.le_trans hs.le hs.c
  unfold maxLen at hm
  have HS := Lib.hid hs
  have HN := Lib.hid hN
  clear hs hN
  go_enter Tryz.func20, Tryz.ntmps20
  go_wp2_with fail
  go_loopw [9] (fun i wr => ∃ j : Nat, j ≤ s.l.length ∧ i = .int .i64 j ∧ (s.l.take j).all smTy = true ∧ Below w.heap.size w wr) (fun i _ => s.l.length - (intOf i).toNat)
  case atStart => exact ⟨0, by omega, rfl, by simp, Below.refl _ _⟩
  case round =>
    obtain ⟨j, hj, rfl, hall, hbel⟩ := hrel
    have HA := Lib.hid hall
    clear hall
    by_cases hlt : j < s.l.length
    · obtain ⟨b, o, x, hA, hx, hb, hok, hcell⟩ := HS.out.at_ hlt
      have q0 : wr.cell? ⟨b, o + j * 2, none⟩ = some (.slice x.p.A x.p.zs.length x.p.c) := (hbel.cell (p := ⟨b, _, none⟩) hb).trans (hcell 0 (by omega))
      have q1 : wr.cell? ⟨b, o + j * 2 + 1, none⟩ = some (.slice x.r.A x.r.zs.length x.r.c) := (hbel.cell (p := ⟨b, _, none⟩) hb).trans (hcell 1 (by omega))
      have hb' := Nat.lt_of_lt_of_le hb hbel.size
      have HC := Lib.hid (fun o' => smallType_any x (wr.alloc o') (HN.out.below (hbel.alloc hbel.size o')) (hok.keep (hbel.alloc hbel.size o').size (Below.kp (hbel.alloc hbel.size o'))))
      have HG := Lib.hid hx
      have HB := Lib.hid hbel
      have hsz := hbel.size
      rw [hA]
      clear hok hcell hbel hx hA
      cases hq : smTy x
      · rw [hq] at HC
        have HQ := Lib.hid (all_false smTy s.l j x HG.out hq)
        clear hq
        go_wp2_with (go_at_call 21; refine (HC.out _).mono ?_; rintro e w' ⟨rfl, hb1⟩; have HB1 := Lib.hid ((HB.out.alloc hsz _).trans (hb1.mono (by simp; omega))); clear hb1)
        go_ret
        exact ⟨by rw [HQ.out]; rfl, HB1.out⟩
      · rw [hq] at HC
        have HQ := Lib.hid ((all_snoc smTy s.l j x HG.out HA.out).trans hq)
        clear hq
        go_wp2_with (go_at_call 21; refine (HC.out _).mono ?_; rintro e w' ⟨rfl, hb1⟩; have HB1 := Lib.hid ((HB.out.alloc hsz _).trans (hb1.mono (by simp; omega))); clear hb1)
        go_roundw
        case rel => exact ⟨j + 1, by omega, by go_num, HQ.out, HB1.out⟩
        case measure => simp [intOf]; omega
    · have HT := Lib.hid (List.take_of_length_le (l := s.l) (i := j) (by omega))
      have HB := Lib.hid hbel
      clear hbel
      go_wp2_with fail
      go_ret
      exact ⟨by rw [← HA.out, HT.out]; rfl, HB.out⟩

def smIm (x : Im) : Bool := decide (x.md.size ≤ 64) && decide (x.nm.size ≤ 64)
set_option maxHeartbeats 8000000 in
set_option maxRecDepth 100000 in
theorem smallImport_any (x : Im) (w : World) (hN : Nam w) (hx : x.ok) : Calls Tryz.prog 23 #[.agg #[.string x.md, .string x.nm, .int .i64 x.kd, .int .i64 x.ty, .bool x.mu, .int .i64 x.lm.mn, .int .i64 x.lm.mx, .bool x.lm.hs]] w fun e w' => e = .returned (.bool (smIm x)) ∧ Below w.heap.size w w' := by
  unfold smIm
  have HA := Lib.hid (fun w => smallName_any x.md w hx.md)
  have HB := Lib.hid (fun w => smallName_any x.nm w hx.nm)
  clear hx hN
  cases hq : decide (x.md.size ≤ 64)
  · rw [hq] at HA
    clear hq
    go_enter Tryz.func23, Tryz.ntmps23
    go_wp2_with (go_at_call 60; ((with_reducible refine (HA.out _).mono ?_); rintro e w1 ⟨rfl, rfl⟩))
    go_ret
    exact ⟨by simp, ((Below.refl _ _).alloc (Nat.le_refl _) _)⟩
  · rw [hq] at HA
    clear hq
    go_enter Tryz.func23, Tryz.ntmps23
    go_wp2_with (first | (go_at_call 60; ((with_reducible refine (HA.out _).mono ?_); rintro e w1 ⟨rfl, rfl⟩)) | (go_at_call 60; ((with_reducible refine (HB.out _).mono ?_); rintro e w1 ⟨rfl, rfl⟩)))
    all_goals
      go_ret
      exact ⟨by simp, ((Below.refl _ _).alloc (Nat.le_refl _) _)⟩
set_option maxHeartbeats 8000000 in
set_option maxRecDepth 100000 in
theorem allIm_any (s : SL Im) (w : World) (hN : Nam w) (hs : s.ok Im.cells (fun _ _ => Im.ok) 8 80 w w.heap.size) :
    Calls Tryz.prog 22 #[.slice s.A s.l.length s.c, .func (.func 23) #[] #[]] w fun e w' => e = .returned (.bool (s.l.all smIm)) ∧ Below w.heap.size w w' := by
  have hm := Nat.le_trans hs.le hs.c
  unfold maxLen at hm
  have HS := Lib.hid hs
  have HN := Lib.hid hN
  clear hs hN
  go_enter Tryz.func22, Tryz.ntmps22
  go_wp2_with fail
  go_loopw [9] (fun i wr => ∃ j : Nat, j ≤ s.l.length ∧ i = .int .i64 j ∧ (s.l.take j).all smIm = true ∧ Below w.heap.size w wr) (fun i _ => s.l.length - (intOf i).toNat)
  case atStart => exact ⟨0, by omega, rfl, by simp, Below.refl _ _⟩
  case round =>
    obtain ⟨j, hj, rfl, hall, hbel⟩ := hrel
    have HA := Lib.hid hall
    clear hall
    by_cases hlt : j < s.l.length
    · obtain ⟨b, o, x, hA, hx, hb, hok, hcell⟩ := HS.out.at_ hlt
      have q0 : wr.cell? ⟨b, o + j * 8, none⟩ = some (.string x.md) := (hbel.cell (p := ⟨b, _, none⟩) hb).trans (hcell 0 (by omega))
      have q1 : wr.cell? ⟨b, o + j * 8 + 1, none⟩ = some (.string x.nm) := (hbel.cell (p := ⟨b, _, none⟩) hb).trans (hcell 1 (by omega))
      have q2 : wr.cell? ⟨b, o + j * 8 + 2, none⟩ = some (.int .i64 x.kd) := (hbel.cell (p := ⟨b, _, none⟩) hb).trans (hcell 2 (by omega))
      have q3 : wr.cell? ⟨b, o + j * 8 + 3, none⟩ = some (.int .i64 x.ty) := (hbel.cell (p := ⟨b, _, none⟩) hb).trans (hcell 3 (by omega))
      have q4 : wr.cell? ⟨b, o + j * 8 + 4, none⟩ = some (.bool x.mu) := (hbel.cell (p := ⟨b, _, none⟩) hb).trans (hcell 4 (by omega))
      have q5 : wr.cell? ⟨b, o + j * 8 + 5, none⟩ = some (.int .i64 x.lm.mn) := (hbel.cell (p := ⟨b, _, none⟩) hb).trans (hcell 5 (by omega))
      have q6 : wr.cell? ⟨b, o + j * 8 + 6, none⟩ = some (.int .i64 x.lm.mx) := (hbel.cell (p := ⟨b, _, none⟩) hb).trans (hcell 6 (by omega))
      have q7 : wr.cell? ⟨b, o + j * 8 + 7, none⟩ = some (.bool x.lm.hs) := (hbel.cell (p := ⟨b, _, none⟩) hb).trans (hcell 7 (by omega))
      have hb' := Nat.lt_of_lt_of_le hb hbel.size
      have HC := Lib.hid (fun o' => smallImport_any x (wr.alloc o') (HN.out.below (hbel.alloc hbel.size o')) hok)
      have HG := Lib.hid hx
      have HB := Lib.hid hbel
      have hsz := hbel.size
      rw [hA]
      clear hok hcell hbel hx hA
      cases hq : smIm x
      · rw [hq] at HC
        have HQ := Lib.hid (all_false smIm s.l j x HG.out hq)
        clear hq
        go_wp2_with (go_at_call 23; refine (HC.out _).mono ?_; rintro e w' ⟨rfl, hb1⟩; have HB1 := Lib.hid ((HB.out.alloc hsz _).trans (hb1.mono (by simp; omega))); clear hb1)
        go_ret
        exact ⟨by rw [HQ.out]; rfl, HB1.out⟩
      · rw [hq] at HC
        have HQ := Lib.hid ((all_snoc smIm s.l j x HG.out HA.out).trans hq)
        clear hq
        go_wp2_with (go_at_call 23; refine (HC.out _).mono ?_; rintro e w' ⟨rfl, hb1⟩; have HB1 := Lib.hid ((HB.out.alloc hsz _).trans (hb1.mono (by simp; omega))); clear hb1)
        go_roundw
        case rel => exact ⟨j + 1, by omega, by go_num, HQ.out, HB1.out⟩
        case measure => simp [intOf]; omega
    · have HT := Lib.hid (List.take_of_length_le (l := s.l) (i := j) (by omega))
      have HB := Lib.hid hbel
      clear hbel
      go_wp2_with fail
      go_ret
      exact ⟨by rw [← HA.out, HT.out]; rfl, HB.out⟩

def smFn (x : Fn) : Bool := decide (x.lo.zs.length ≤ 64) && scode x.bo.f
set_option maxHeartbeats 8000000 in
set_option maxRecDepth 100000 in
theorem smallFunc_any (x : Fn) (w : World) (hN : Nam w) (hx : x.ok w w.heap.size) : Calls Tryz.prog 25 #[.agg #[.int .i64 x.ty, .slice x.lo.A x.lo.zs.length x.lo.c, .slice x.bo.A (len x.bo.f) x.bo.c]] w fun e w' => e = .returned (.bool (smFn x)) ∧ Below w.heap.size w w' := by
  unfold smFn
  have HA := Lib.hid (fun w' (hb : Below w.heap.size w w') => smallCode_any x.bo.f x.bo.A x.bo.c w' (hN.below hb) ((hx.bo.keep hb.size (Below.kp hb)).rd) (Nat.le_trans hx.bo.le hx.bo.c))
  have m1 := Nat.le_trans hx.lo.le hx.lo.c
  unfold maxLen at m1
  clear hx hN
  by_cases h1 : x.lo.zs.length ≤ 64
  · have t1 : decide ((x.lo.zs.length : Int) ≤ 64) = true := leT h1
    rw [decide_eq_true h1]
    clear h1
    go_enter Tryz.func25, Tryz.ntmps25
    go_wp2_with (go_at_call 61; refine (HA.out _ ((Below.refl _ _).alloc (Nat.le_refl _) _)).mono ?_; rintro e w1 ⟨rfl, hb1⟩; have HW1 := Lib.hid (bel_alloc hb1); clear hb1)
    go_ret
    exact ⟨by simp, HW1.out⟩
  · have t1 : decide ((x.lo.zs.length : Int) ≤ 64) = false := leF h1
    rw [decide_eq_false h1]
    clear h1
    go_enter Tryz.func25, Tryz.ntmps25
    go_wp2_with fail
    go_ret
    exact ⟨by simp, ((Below.refl _ _).alloc (Nat.le_refl _) _)⟩
set_option maxHeartbeats 8000000 in
set_option maxRecDepth 100000 in
theorem allFn_any (s : SL Fn) (w : World) (hN : Nam w) (hs : s.ok Fn.cells Fn.ok 3 56 w w.heap.size) :
    Calls Tryz.prog 24 #[.slice s.A s.l.length s.c, .func (.func 25) #[] #[]] w fun e w' => e = .returned (.bool (s.l.all smFn)) ∧ Below w.heap.size w w' := by
  have hm := Nat.le_trans hs.le hs.c
  unfold maxLen at hm
  have HS := Lib.hid hs
  have HN := Lib.hid hN
  clear hs hN
  go_enter Tryz.func24, Tryz.ntmps24
  go_wp2_with fail
  go_loopw [9] (fun i wr => ∃ j : Nat, j ≤ s.l.length ∧ i = .int .i64 j ∧ (s.l.take j).all smFn = true ∧ Below w.heap.size w wr) (fun i _ => s.l.length - (intOf i).toNat)
  case atStart => exact ⟨0, by omega, rfl, by simp, Below.refl _ _⟩
  case round =>
    obtain ⟨j, hj, rfl, hall, hbel⟩ := hrel
    have HA := Lib.hid hall
    clear hall
    by_cases hlt : j < s.l.length
    · obtain ⟨b, o, x, hA, hx, hb, hok, hcell⟩ := HS.out.at_ hlt
      have q0 : wr.cell? ⟨b, o + j * 3, none⟩ = some (.int .i64 x.ty) := (hbel.cell (p := ⟨b, _, none⟩) hb).trans (hcell 0 (by omega))
      have q1 : wr.cell? ⟨b, o + j * 3 + 1, none⟩ = some (.slice x.lo.A x.lo.zs.length x.lo.c) := (hbel.cell (p := ⟨b, _, none⟩) hb).trans (hcell 1 (by omega))
      have q2 : wr.cell? ⟨b, o + j * 3 + 2, none⟩ = some (.slice x.bo.A (len x.bo.f) x.bo.c) := (hbel.cell (p := ⟨b, _, none⟩) hb).trans (hcell 2 (by omega))
      have hb' := Nat.lt_of_lt_of_le hb hbel.size
      have HC := Lib.hid (fun o' => smallFunc_any x (wr.alloc o') (HN.out.below (hbel.alloc hbel.size o')) (hok.keep (hbel.alloc hbel.size o').size (Below.kp (hbel.alloc hbel.size o'))))
      have HG := Lib.hid hx
      have HB := Lib.hid hbel
      have hsz := hbel.size
      rw [hA]
      clear hok hcell hbel hx hA
      cases hq : smFn x
      · rw [hq] at HC
        have HQ := Lib.hid (all_false smFn s.l j x HG.out hq)
        clear hq
        go_wp2_with (go_at_call 25; refine (HC.out _).mono ?_; rintro e w' ⟨rfl, hb1⟩; have HB1 := Lib.hid ((HB.out.alloc hsz _).trans (hb1.mono (by simp; omega))); clear hb1)
        go_ret
        exact ⟨by rw [HQ.out]; rfl, HB1.out⟩
      · rw [hq] at HC
        have HQ := Lib.hid ((all_snoc smFn s.l j x HG.out HA.out).trans hq)
        clear hq
        go_wp2_with (go_at_call 25; refine (HC.out _).mono ?_; rintro e w' ⟨rfl, hb1⟩; have HB1 := Lib.hid ((HB.out.alloc hsz _).trans (hb1.mono (by simp; omega))); clear hb1)
        go_roundw
        case rel => exact ⟨j + 1, by omega, by go_num, HQ.out, HB1.out⟩
        case measure => simp [intOf]; omega
    · have HT := Lib.hid (List.take_of_length_le (l := s.l) (i := j) (by omega))
      have HB := Lib.hid hbel
      clear hbel
      go_wp2_with fail
      go_ret
      exact ⟨by rw [← HA.out, HT.out]; rfl, HB.out⟩

def smGl (x : Gl) : Bool := sIns x.i.n
set_option maxHeartbeats 8000000 in
set_option maxRecDepth 100000 in
theorem smallGlobal_any (x : Gl) (w : World) (hN : Nam w) (hx : x.ok w w.heap.size) : Calls Tryz.prog 27 #[.agg #[.int .i64 x.ty, .bool x.mu, .int .i64 x.i.n.op, .int .i64 x.i.n.a, .int .i64 x.i.n.b, .int .u64 x.i.n.v, .int .i64 x.i.n.t, .slice x.i.p.AL x.i.n.L.length x.i.p.cL, .slice x.i.p.Ab (len x.i.n.body) x.i.p.cb, .slice x.i.p.Ae (len x.i.n.els) x.i.p.ce, .bool x.i.n.he]] w fun e w' => e = .returned (.bool (smGl x)) ∧ Below w.heap.size w w' := by
  unfold smGl
  have HA := Lib.hid (fun w' (hb : Below w.heap.size w w') => smallIns_any x.i w' (hN.below hb) (hx.i.keep hb.size (Below.kp hb)))
  unfold inA at HA
  clear hx hN
  go_enter Tryz.func27, Tryz.ntmps27
  go_wp2_with (go_at_call 62; refine (HA.out _ ((Below.refl _ _).alloc (Nat.le_refl _) _)).mono ?_; rintro e w1 ⟨rfl, hb1⟩; have HW1 := Lib.hid (bel_alloc hb1); clear hb1)
  go_ret
  exact ⟨rfl, HW1.out⟩
set_option maxHeartbeats 8000000 in
set_option maxRecDepth 100000 in
theorem allGl_any (s : SL Gl) (w : World) (hN : Nam w) (hs : s.ok Gl.cells Gl.ok 11 136 w w.heap.size) :
    Calls Tryz.prog 26 #[.slice s.A s.l.length s.c, .func (.func 27) #[] #[]] w fun e w' => e = .returned (.bool (s.l.all smGl)) ∧ Below w.heap.size w w' := by
  have hm := Nat.le_trans hs.le hs.c
  unfold maxLen at hm
  have HS := Lib.hid hs
  have HN := Lib.hid hN
  clear hs hN
  go_enter Tryz.func26, Tryz.ntmps26
  go_wp2_with fail
  go_loopw [9] (fun i wr => ∃ j : Nat, j ≤ s.l.length ∧ i = .int .i64 j ∧ (s.l.take j).all smGl = true ∧ Below w.heap.size w wr) (fun i _ => s.l.length - (intOf i).toNat)
  case atStart => exact ⟨0, by omega, rfl, by simp, Below.refl _ _⟩
  case round =>
    obtain ⟨j, hj, rfl, hall, hbel⟩ := hrel
    have HA := Lib.hid hall
    clear hall
    by_cases hlt : j < s.l.length
    · obtain ⟨b, o, x, hA, hx, hb, hok, hcell⟩ := HS.out.at_ hlt
      have q0 : wr.cell? ⟨b, o + j * 11, none⟩ = some (.int .i64 x.ty) := (hbel.cell (p := ⟨b, _, none⟩) hb).trans (hcell 0 (by omega))
      have q1 : wr.cell? ⟨b, o + j * 11 + 1, none⟩ = some (.bool x.mu) := (hbel.cell (p := ⟨b, _, none⟩) hb).trans (hcell 1 (by omega))
      have q2 : wr.cell? ⟨b, o + j * 11 + 2, none⟩ = some (.int .i64 x.i.n.op) := (hbel.cell (p := ⟨b, _, none⟩) hb).trans (hcell 2 (by omega))
      have q3 : wr.cell? ⟨b, o + j * 11 + 3, none⟩ = some (.int .i64 x.i.n.a) := (hbel.cell (p := ⟨b, _, none⟩) hb).trans (hcell 3 (by omega))
      have q4 : wr.cell? ⟨b, o + j * 11 + 4, none⟩ = some (.int .i64 x.i.n.b) := (hbel.cell (p := ⟨b, _, none⟩) hb).trans (hcell 4 (by omega))
      have q5 : wr.cell? ⟨b, o + j * 11 + 5, none⟩ = some (.int .u64 x.i.n.v) := (hbel.cell (p := ⟨b, _, none⟩) hb).trans (hcell 5 (by omega))
      have q6 : wr.cell? ⟨b, o + j * 11 + 6, none⟩ = some (.int .i64 x.i.n.t) := (hbel.cell (p := ⟨b, _, none⟩) hb).trans (hcell 6 (by omega))
      have q7 : wr.cell? ⟨b, o + j * 11 + 7, none⟩ = some (.slice x.i.p.AL x.i.n.L.length x.i.p.cL) := (hbel.cell (p := ⟨b, _, none⟩) hb).trans (hcell 7 (by omega))
      have q8 : wr.cell? ⟨b, o + j * 11 + 8, none⟩ = some (.slice x.i.p.Ab (len x.i.n.body) x.i.p.cb) := (hbel.cell (p := ⟨b, _, none⟩) hb).trans (hcell 8 (by omega))
      have q9 : wr.cell? ⟨b, o + j * 11 + 9, none⟩ = some (.slice x.i.p.Ae (len x.i.n.els) x.i.p.ce) := (hbel.cell (p := ⟨b, _, none⟩) hb).trans (hcell 9 (by omega))
      have q10 : wr.cell? ⟨b, o + j * 11 + 10, none⟩ = some (.bool x.i.n.he) := (hbel.cell (p := ⟨b, _, none⟩) hb).trans (hcell 10 (by omega))
      have hb' := Nat.lt_of_lt_of_le hb hbel.size
      have HC := Lib.hid (fun o' => smallGlobal_any x (wr.alloc o') (HN.out.below (hbel.alloc hbel.size o')) (hok.keep (hbel.alloc hbel.size o').size (Below.kp (hbel.alloc hbel.size o'))))
      have HG := Lib.hid hx
      have HB := Lib.hid hbel
      have hsz := hbel.size
      rw [hA]
      clear hok hcell hbel hx hA
      cases hq : smGl x
      · rw [hq] at HC
        have HQ := Lib.hid (all_false smGl s.l j x HG.out hq)
        clear hq
        go_wp2_with (go_at_call 27; refine (HC.out _).mono ?_; rintro e w' ⟨rfl, hb1⟩; have HB1 := Lib.hid ((HB.out.alloc hsz _).trans (hb1.mono (by simp; omega))); clear hb1)
        go_ret
        exact ⟨by rw [HQ.out]; rfl, HB1.out⟩
      · rw [hq] at HC
        have HQ := Lib.hid ((all_snoc smGl s.l j x HG.out HA.out).trans hq)
        clear hq
        go_wp2_with (go_at_call 27; refine (HC.out _).mono ?_; rintro e w' ⟨rfl, hb1⟩; have HB1 := Lib.hid ((HB.out.alloc hsz _).trans (hb1.mono (by simp; omega))); clear hb1)
        go_roundw
        case rel => exact ⟨j + 1, by omega, by go_num, HQ.out, HB1.out⟩
        case measure => simp [intOf]; omega
    · have HT := Lib.hid (List.take_of_length_le (l := s.l) (i := j) (by omega))
      have HB := Lib.hid hbel
      clear hbel
      go_wp2_with fail
      go_ret
      exact ⟨by rw [← HA.out, HT.out]; rfl, HB.out⟩

def smEx (x : Ex) : Bool := decide (x.nm.size ≤ 64)
set_option maxHeartbeats 8000000 in
set_option maxRecDepth 100000 in
theorem smallExport_any (x : Ex) (w : World) (hN : Nam w) (hx : x.ok) : Calls Tryz.prog 29 #[.agg #[.string x.nm, .int .i64 x.kd, .int .i64 x.ix]] w fun e w' => e = .returned (.bool (smEx x)) ∧ Below w.heap.size w w' := by
  unfold smEx
  have HA := Lib.hid (fun w => smallName_any x.nm w hx.nm)
  clear hx hN
  go_enter Tryz.func29, Tryz.ntmps29
  go_wp2_with (go_at_call 60; (with_reducible refine (HA.out _).mono ?_); rintro e w1 ⟨rfl, rfl⟩)
  go_ret
  exact ⟨rfl, ((Below.refl _ _).alloc (Nat.le_refl _) _)⟩
set_option maxHeartbeats 8000000 in
set_option maxRecDepth 100000 in
theorem allEx_any (s : SL Ex) (w : World) (hN : Nam w) (hs : s.ok Ex.cells (fun _ _ => Ex.ok) 3 32 w w.heap.size) :
    Calls Tryz.prog 28 #[.slice s.A s.l.length s.c, .func (.func 29) #[] #[]] w fun e w' => e = .returned (.bool (s.l.all smEx)) ∧ Below w.heap.size w w' := by
  have hm := Nat.le_trans hs.le hs.c
  unfold maxLen at hm
  have HS := Lib.hid hs
  have HN := Lib.hid hN
  clear hs hN
  go_enter Tryz.func28, Tryz.ntmps28
  go_wp2_with fail
  go_loopw [9] (fun i wr => ∃ j : Nat, j ≤ s.l.length ∧ i = .int .i64 j ∧ (s.l.take j).all smEx = true ∧ Below w.heap.size w wr) (fun i _ => s.l.length - (intOf i).toNat)
  case atStart => exact ⟨0, by omega, rfl, by simp, Below.refl _ _⟩
  case round =>
    obtain ⟨j, hj, rfl, hall, hbel⟩ := hrel
    have HA := Lib.hid hall
    clear hall
    by_cases hlt : j < s.l.length
    · obtain ⟨b, o, x, hA, hx, hb, hok, hcell⟩ := HS.out.at_ hlt
      have q0 : wr.cell? ⟨b, o + j * 3, none⟩ = some (.string x.nm) := (hbel.cell (p := ⟨b, _, none⟩) hb).trans (hcell 0 (by omega))
      have q1 : wr.cell? ⟨b, o + j * 3 + 1, none⟩ = some (.int .i64 x.kd) := (hbel.cell (p := ⟨b, _, none⟩) hb).trans (hcell 1 (by omega))
      have q2 : wr.cell? ⟨b, o + j * 3 + 2, none⟩ = some (.int .i64 x.ix) := (hbel.cell (p := ⟨b, _, none⟩) hb).trans (hcell 2 (by omega))
      have hb' := Nat.lt_of_lt_of_le hb hbel.size
      have HC := Lib.hid (fun o' => smallExport_any x (wr.alloc o') (HN.out.below (hbel.alloc hbel.size o')) hok)
      have HG := Lib.hid hx
      have HB := Lib.hid hbel
      have hsz := hbel.size
      rw [hA]
      clear hok hcell hbel hx hA
      cases hq : smEx x
      · rw [hq] at HC
        have HQ := Lib.hid (all_false smEx s.l j x HG.out hq)
        clear hq
        go_wp2_with (go_at_call 29; refine (HC.out _).mono ?_; rintro e w' ⟨rfl, hb1⟩; have HB1 := Lib.hid ((HB.out.alloc hsz _).trans (hb1.mono (by simp; omega))); clear hb1)
        go_ret
        exact ⟨by rw [HQ.out]; rfl, HB1.out⟩
      · rw [hq] at HC
        have HQ := Lib.hid ((all_snoc smEx s.l j x HG.out HA.out).trans hq)
        clear hq
        go_wp2_with (go_at_call 29; refine (HC.out _).mono ?_; rintro e w' ⟨rfl, hb1⟩; have HB1 := Lib.hid ((HB.out.alloc hsz _).trans (hb1.mono (by simp; omega))); clear hb1)
        go_roundw
        case rel => exact ⟨j + 1, by omega, by go_num, HQ.out, HB1.out⟩
        case measure => simp [intOf]; omega
    · have HT := Lib.hid (List.take_of_length_le (l := s.l) (i := j) (by omega))
      have HB := Lib.hid hbel
      clear hbel
      go_wp2_with fail
      go_ret
      exact ⟨by rw [← HA.out, HT.out]; rfl, HB.out⟩

def smEl (x : El) : Bool := decide (x.fs.zs.length ≤ 64) && sIns x.i.n
set_option maxHeartbeats 8000000 in
set_option maxRecDepth 100000 in
theorem smallElem_any (x : El) (w : World) (hN : Nam w) (hx : x.ok w w.heap.size) : Calls Tryz.prog 31 #[.agg #[.int .i64 x.i.n.op, .int .i64 x.i.n.a, .int .i64 x.i.n.b, .int .u64 x.i.n.v, .int .i64 x.i.n.t, .slice x.i.p.AL x.i.n.L.length x.i.p.cL, .slice x.i.p.Ab (len x.i.n.body) x.i.p.cb, .slice x.i.p.Ae (len x.i.n.els) x.i.p.ce, .bool x.i.n.he, .slice x.fs.A x.fs.zs.length x.fs.c]] w fun e w' => e = .returned (.bool (smEl x)) ∧ Below w.heap.size w w' := by
  unfold smEl
  have HA := Lib.hid (fun w' (hb : Below w.heap.size w w') => smallIns_any x.i w' (hN.below hb) (hx.i.keep hb.size (Below.kp hb)))
  unfold inA at HA
  have m1 := Nat.le_trans hx.fs.le hx.fs.c
  unfold maxLen at m1
  clear hx hN
  by_cases h1 : x.fs.zs.length ≤ 64
  · have t1 : decide ((x.fs.zs.length : Int) ≤ 64) = true := leT h1
    rw [decide_eq_true h1]
    clear h1
    go_enter Tryz.func31, Tryz.ntmps31
    go_wp2_with (go_at_call 62; refine (HA.out _ ((Below.refl _ _).alloc (Nat.le_refl _) _)).mono ?_; rintro e w1 ⟨rfl, hb1⟩; have HW1 := Lib.hid (bel_alloc hb1); clear hb1)
    go_ret
    exact ⟨by simp, HW1.out⟩
  · have t1 : decide ((x.fs.zs.length : Int) ≤ 64) = false := leF h1
    rw [decide_eq_false h1]
    clear h1
    go_enter Tryz.func31, Tryz.ntmps31
    go_wp2_with fail
    go_ret
    exact ⟨by simp, ((Below.refl _ _).alloc (Nat.le_refl _) _)⟩
set_option maxHeartbeats 8000000 in
set_option maxRecDepth 100000 in
theorem allEl_any (s : SL El) (w : World) (hN : Nam w) (hs : s.ok El.cells El.ok 10 144 w w.heap.size) :
    Calls Tryz.prog 30 #[.slice s.A s.l.length s.c, .func (.func 31) #[] #[]] w fun e w' => e = .returned (.bool (s.l.all smEl)) ∧ Below w.heap.size w w' := by
  have hm := Nat.le_trans hs.le hs.c
  unfold maxLen at hm
  have HS := Lib.hid hs
  have HN := Lib.hid hN
  clear hs hN
  go_enter Tryz.func30, Tryz.ntmps30
  go_wp2_with fail
  go_loopw [9] (fun i wr => ∃ j : Nat, j ≤ s.l.length ∧ i = .int .i64 j ∧ (s.l.take j).all smEl = true ∧ Below w.heap.size w wr) (fun i _ => s.l.length - (intOf i).toNat)
  case atStart => exact ⟨0, by omega, rfl, by simp, Below.refl _ _⟩
  case round =>
    obtain ⟨j, hj, rfl, hall, hbel⟩ := hrel
    have HA := Lib.hid hall
    clear hall
    by_cases hlt : j < s.l.length
    · obtain ⟨b, o, x, hA, hx, hb, hok, hcell⟩ := HS.out.at_ hlt
      have q0 : wr.cell? ⟨b, o + j * 10, none⟩ = some (.int .i64 x.i.n.op) := (hbel.cell (p := ⟨b, _, none⟩) hb).trans (hcell 0 (by omega))
      have q1 : wr.cell? ⟨b, o + j * 10 + 1, none⟩ = some (.int .i64 x.i.n.a) := (hbel.cell (p := ⟨b, _, none⟩) hb).trans (hcell 1 (by omega))
      have q2 : wr.cell? ⟨b, o + j * 10 + 2, none⟩ = some (.int .i64 x.i.n.b) := (hbel.cell (p := ⟨b, _, none⟩) hb).trans (hcell 2 (by omega))
      have q3 : wr.cell? ⟨b, o + j * 10 + 3, none⟩ = some (.int .u64 x.i.n.v) := (hbel.cell (p := ⟨b, _, none⟩) hb).trans (hcell 3 (by omega))
      have q4 : wr.cell? ⟨b, o + j * 10 + 4, none⟩ = some (.int .i64 x.i.n.t) := (hbel.cell (p := ⟨b, _, none⟩) hb).trans (hcell 4 (by omega))
      have q5 : wr.cell? ⟨b, o + j * 10 + 5, none⟩ = some (.slice x.i.p.AL x.i.n.L.length x.i.p.cL) := (hbel.cell (p := ⟨b, _, none⟩) hb).trans (hcell 5 (by omega))
      have q6 : wr.cell? ⟨b, o + j * 10 + 6, none⟩ = some (.slice x.i.p.Ab (len x.i.n.body) x.i.p.cb) := (hbel.cell (p := ⟨b, _, none⟩) hb).trans (hcell 6 (by omega))
      have q7 : wr.cell? ⟨b, o + j * 10 + 7, none⟩ = some (.slice x.i.p.Ae (len x.i.n.els) x.i.p.ce) := (hbel.cell (p := ⟨b, _, none⟩) hb).trans (hcell 7 (by omega))
      have q8 : wr.cell? ⟨b, o + j * 10 + 8, none⟩ = some (.bool x.i.n.he) := (hbel.cell (p := ⟨b, _, none⟩) hb).trans (hcell 8 (by omega))
      have q9 : wr.cell? ⟨b, o + j * 10 + 9, none⟩ = some (.slice x.fs.A x.fs.zs.length x.fs.c) := (hbel.cell (p := ⟨b, _, none⟩) hb).trans (hcell 9 (by omega))
      have hb' := Nat.lt_of_lt_of_le hb hbel.size
      have HC := Lib.hid (fun o' => smallElem_any x (wr.alloc o') (HN.out.below (hbel.alloc hbel.size o')) (hok.keep (hbel.alloc hbel.size o').size (Below.kp (hbel.alloc hbel.size o'))))
      have HG := Lib.hid hx
      have HB := Lib.hid hbel
      have hsz := hbel.size
      rw [hA]
      clear hok hcell hbel hx hA
      cases hq : smEl x
      · rw [hq] at HC
        have HQ := Lib.hid (all_false smEl s.l j x HG.out hq)
        clear hq
        go_wp2_with (go_at_call 31; refine (HC.out _).mono ?_; rintro e w' ⟨rfl, hb1⟩; have HB1 := Lib.hid ((HB.out.alloc hsz _).trans (hb1.mono (by simp; omega))); clear hb1)
        go_ret
        exact ⟨by rw [HQ.out]; rfl, HB1.out⟩
      · rw [hq] at HC
        have HQ := Lib.hid ((all_snoc smEl s.l j x HG.out HA.out).trans hq)
        clear hq
        go_wp2_with (go_at_call 31; refine (HC.out _).mono ?_; rintro e w' ⟨rfl, hb1⟩; have HB1 := Lib.hid ((HB.out.alloc hsz _).trans (hb1.mono (by simp; omega))); clear hb1)
        go_roundw
        case rel => exact ⟨j + 1, by omega, by go_num, HQ.out, HB1.out⟩
        case measure => simp [intOf]; omega
    · have HT := Lib.hid (List.take_of_length_le (l := s.l) (i := j) (by omega))
      have HB := Lib.hid hbel
      clear hbel
      go_wp2_with fail
      go_ret
      exact ⟨by rw [← HA.out, HT.out]; rfl, HB.out⟩

def smDa (x : Da) : Bool := decide (x.bs.bs.length ≤ 4096) && sIns x.i.n
set_option maxHeartbeats 8000000 in
set_option maxRecDepth 100000 in
theorem smallData_any (x : Da) (w : World) (hN : Nam w) (hx : x.ok w w.heap.size) : Calls Tryz.prog 33 #[.agg #[.int .i64 x.i.n.op, .int .i64 x.i.n.a, .int .i64 x.i.n.b, .int .u64 x.i.n.v, .int .i64 x.i.n.t, .slice x.i.p.AL x.i.n.L.length x.i.p.cL, .slice x.i.p.Ab (len x.i.n.body) x.i.p.cb, .slice x.i.p.Ae (len x.i.n.els) x.i.p.ce, .bool x.i.n.he, .slice x.bs.A x.bs.bs.length x.bs.c]] w fun e w' => e = .returned (.bool (smDa x)) ∧ Below w.heap.size w w' := by
  unfold smDa
  have HA := Lib.hid (fun w' (hb : Below w.heap.size w w') => smallIns_any x.i w' (hN.below hb) (hx.i.keep hb.size (Below.kp hb)))
  unfold inA at HA
  have m1 := Nat.le_trans hx.bs.le hx.bs.c
  unfold maxLen at m1
  clear hx hN
  by_cases h1 : x.bs.bs.length ≤ 4096
  · have t1 : decide ((x.bs.bs.length : Int) ≤ 4096) = true := leT h1
    rw [decide_eq_true h1]
    clear h1
    go_enter Tryz.func33, Tryz.ntmps33
    go_wp2_with (go_at_call 62; refine (HA.out _ ((Below.refl _ _).alloc (Nat.le_refl _) _)).mono ?_; rintro e w1 ⟨rfl, hb1⟩; have HW1 := Lib.hid (bel_alloc hb1); clear hb1)
    go_ret
    exact ⟨by simp, HW1.out⟩
  · have t1 : decide ((x.bs.bs.length : Int) ≤ 4096) = false := leF h1
    rw [decide_eq_false h1]
    clear h1
    go_enter Tryz.func33, Tryz.ntmps33
    go_wp2_with fail
    go_ret
    exact ⟨by simp, ((Below.refl _ _).alloc (Nat.le_refl _) _)⟩
set_option maxHeartbeats 8000000 in
set_option maxRecDepth 100000 in
theorem allDa_any (s : SL Da) (w : World) (hN : Nam w) (hs : s.ok Da.cells Da.ok 10 144 w w.heap.size) :
    Calls Tryz.prog 32 #[.slice s.A s.l.length s.c, .func (.func 33) #[] #[]] w fun e w' => e = .returned (.bool (s.l.all smDa)) ∧ Below w.heap.size w w' := by
  have hm := Nat.le_trans hs.le hs.c
  unfold maxLen at hm
  have HS := Lib.hid hs
  have HN := Lib.hid hN
  clear hs hN
  go_enter Tryz.func32, Tryz.ntmps32
  go_wp2_with fail
  go_loopw [9] (fun i wr => ∃ j : Nat, j ≤ s.l.length ∧ i = .int .i64 j ∧ (s.l.take j).all smDa = true ∧ Below w.heap.size w wr) (fun i _ => s.l.length - (intOf i).toNat)
  case atStart => exact ⟨0, by omega, rfl, by simp, Below.refl _ _⟩
  case round =>
    obtain ⟨j, hj, rfl, hall, hbel⟩ := hrel
    have HA := Lib.hid hall
    clear hall
    by_cases hlt : j < s.l.length
    · obtain ⟨b, o, x, hA, hx, hb, hok, hcell⟩ := HS.out.at_ hlt
      have q0 : wr.cell? ⟨b, o + j * 10, none⟩ = some (.int .i64 x.i.n.op) := (hbel.cell (p := ⟨b, _, none⟩) hb).trans (hcell 0 (by omega))
      have q1 : wr.cell? ⟨b, o + j * 10 + 1, none⟩ = some (.int .i64 x.i.n.a) := (hbel.cell (p := ⟨b, _, none⟩) hb).trans (hcell 1 (by omega))
      have q2 : wr.cell? ⟨b, o + j * 10 + 2, none⟩ = some (.int .i64 x.i.n.b) := (hbel.cell (p := ⟨b, _, none⟩) hb).trans (hcell 2 (by omega))
      have q3 : wr.cell? ⟨b, o + j * 10 + 3, none⟩ = some (.int .u64 x.i.n.v) := (hbel.cell (p := ⟨b, _, none⟩) hb).trans (hcell 3 (by omega))
      have q4 : wr.cell? ⟨b, o + j * 10 + 4, none⟩ = some (.int .i64 x.i.n.t) := (hbel.cell (p := ⟨b, _, none⟩) hb).trans (hcell 4 (by omega))
      have q5 : wr.cell? ⟨b, o + j * 10 + 5, none⟩ = some (.slice x.i.p.AL x.i.n.L.length x.i.p.cL) := (hbel.cell (p := ⟨b, _, none⟩) hb).trans (hcell 5 (by omega))
      have q6 : wr.cell? ⟨b, o + j * 10 + 6, none⟩ = some (.slice x.i.p.Ab (len x.i.n.body) x.i.p.cb) := (hbel.cell (p := ⟨b, _, none⟩) hb).trans (hcell 6 (by omega))
      have q7 : wr.cell? ⟨b, o + j * 10 + 7, none⟩ = some (.slice x.i.p.Ae (len x.i.n.els) x.i.p.ce) := (hbel.cell (p := ⟨b, _, none⟩) hb).trans (hcell 7 (by omega))
      have q8 : wr.cell? ⟨b, o + j * 10 + 8, none⟩ = some (.bool x.i.n.he) := (hbel.cell (p := ⟨b, _, none⟩) hb).trans (hcell 8 (by omega))
      have q9 : wr.cell? ⟨b, o + j * 10 + 9, none⟩ = some (.slice x.bs.A x.bs.bs.length x.bs.c) := (hbel.cell (p := ⟨b, _, none⟩) hb).trans (hcell 9 (by omega))
      have hb' := Nat.lt_of_lt_of_le hb hbel.size
      have HC := Lib.hid (fun o' => smallData_any x (wr.alloc o') (HN.out.below (hbel.alloc hbel.size o')) (hok.keep (hbel.alloc hbel.size o').size (Below.kp (hbel.alloc hbel.size o'))))
      have HG := Lib.hid hx
      have HB := Lib.hid hbel
      have hsz := hbel.size
      rw [hA]
      clear hok hcell hbel hx hA
      cases hq : smDa x
      · rw [hq] at HC
        have HQ := Lib.hid (all_false smDa s.l j x HG.out hq)
        clear hq
        go_wp2_with (go_at_call 33; refine (HC.out _).mono ?_; rintro e w' ⟨rfl, hb1⟩; have HB1 := Lib.hid ((HB.out.alloc hsz _).trans (hb1.mono (by simp; omega))); clear hb1)
        go_ret
        exact ⟨by rw [HQ.out]; rfl, HB1.out⟩
      · rw [hq] at HC
        have HQ := Lib.hid ((all_snoc smDa s.l j x HG.out HA.out).trans hq)
        clear hq
        go_wp2_with (go_at_call 33; refine (HC.out _).mono ?_; rintro e w' ⟨rfl, hb1⟩; have HB1 := Lib.hid ((HB.out.alloc hsz _).trans (hb1.mono (by simp; omega))); clear hb1)
        go_roundw
        case rel => exact ⟨j + 1, by omega, by go_num, HQ.out, HB1.out⟩
        case measure => simp [intOf]; omega
    · have HT := Lib.hid (List.take_of_length_le (l := s.l) (i := j) (by omega))
      have HB := Lib.hid hbel
      clear hbel
      go_wp2_with fail
      go_ret
      exact ⟨by rw [← HA.out, HT.out]; rfl, HB.out⟩

def smCu (x : Cu) : Bool := decide (x.nm.size ≤ 64) && decide (x.bs.bs.length ≤ 4096)
set_option maxHeartbeats 8000000 in
set_option maxRecDepth 100000 in
theorem smallCustom_any (x : Cu) (w : World) (hN : Nam w) (hx : x.ok w w.heap.size) : Calls Tryz.prog 35 #[.agg #[.string x.nm, .slice x.bs.A x.bs.bs.length x.bs.c]] w fun e w' => e = .returned (.bool (smCu x)) ∧ Below w.heap.size w w' := by
  unfold smCu
  have HA := Lib.hid (fun w => smallName_any x.nm w hx.nm)
  have m1 := Nat.le_trans hx.bs.le hx.bs.c
  unfold maxLen at m1
  clear hx hN
  cases hq : decide (x.nm.size ≤ 64)
  · rw [hq] at HA
    clear hq
    go_enter Tryz.func35, Tryz.ntmps35
    go_wp2_with (go_at_call 60; ((with_reducible refine (HA.out _).mono ?_); rintro e w1 ⟨rfl, rfl⟩))
    go_ret
    exact ⟨by simp, ((Below.refl _ _).alloc (Nat.le_refl _) _)⟩
  · rw [hq] at HA
    clear hq
    by_cases h1 : x.bs.bs.length ≤ 4096
    · have t1 : decide ((x.bs.bs.length : Int) ≤ 4096) = true := leT h1
      rw [decide_eq_true h1]
      clear h1
      go_enter Tryz.func35, Tryz.ntmps35
      go_wp2_with (go_at_call 60; ((with_reducible refine (HA.out _).mono ?_); rintro e w1 ⟨rfl, rfl⟩))
      go_ret
      exact ⟨by simp, ((Below.refl _ _).alloc (Nat.le_refl _) _)⟩
    · have t1 : decide ((x.bs.bs.length : Int) ≤ 4096) = false := leF h1
      rw [decide_eq_false h1]
      clear h1
      go_enter Tryz.func35, Tryz.ntmps35
      go_wp2_with (go_at_call 60; ((with_reducible refine (HA.out _).mono ?_); rintro e w1 ⟨rfl, rfl⟩))
      go_ret
      exact ⟨by simp, ((Below.refl _ _).alloc (Nat.le_refl _) _)⟩
set_option maxHeartbeats 8000000 in
set_option maxRecDepth 100000 in
theorem allCu_any (s : SL Cu) (w : World) (hN : Nam w) (hs : s.ok Cu.cells Cu.ok 2 40 w w.heap.size) :
    Calls Tryz.prog 34 #[.slice s.A s.l.length s.c, .func (.func 35) #[] #[]] w fun e w' => e = .returned (.bool (s.l.all smCu)) ∧ Below w.heap.size w w' := by
  have hm := Nat.le_trans hs.le hs.c
  unfold maxLen at hm
  have HS := Lib.hid hs
  have HN := Lib.hid hN
  clear hs hN
  go_enter Tryz.func34, Tryz.ntmps34
  go_wp2_with fail
  go_loopw [9] (fun i wr => ∃ j : Nat, j ≤ s.l.length ∧ i = .int .i64 j ∧ (s.l.take j).all smCu = true ∧ Below w.heap.size w wr) (fun i _ => s.l.length - (intOf i).toNat)
  case atStart => exact ⟨0, by omega, rfl, by simp, Below.refl _ _⟩
  case round =>
    obtain ⟨j, hj, rfl, hall, hbel⟩ := hrel
    have HA := Lib.hid hall
    clear hall
    by_cases hlt : j < s.l.length
    · obtain ⟨b, o, x, hA, hx, hb, hok, hcell⟩ := HS.out.at_ hlt
      have q0 : wr.cell? ⟨b, o + j * 2, none⟩ = some (.string x.nm) := (hbel.cell (p := ⟨b, _, none⟩) hb).trans (hcell 0 (by omega))
      have q1 : wr.cell? ⟨b, o + j * 2 + 1, none⟩ = some (.slice x.bs.A x.bs.bs.length x.bs.c) := (hbel.cell (p := ⟨b, _, none⟩) hb).trans (hcell 1 (by omega))
      have hb' := Nat.lt_of_lt_of_le hb hbel.size
      have HC := Lib.hid (fun o' => smallCustom_any x (wr.alloc o') (HN.out.below (hbel.alloc hbel.size o')) (hok.keep (hbel.alloc hbel.size o').size (Below.kp (hbel.alloc hbel.size o'))))
      have HG := Lib.hid hx
      have HB := Lib.hid hbel
      have hsz := hbel.size
      rw [hA]
      clear hok hcell hbel hx hA
      cases hq : smCu x
      · rw [hq] at HC
        have HQ := Lib.hid (all_false smCu s.l j x HG.out hq)
        clear hq
        go_wp2_with (go_at_call 35; refine (HC.out _).mono ?_; rintro e w' ⟨rfl, hb1⟩; have HB1 := Lib.hid ((HB.out.alloc hsz _).trans (hb1.mono (by simp; omega))); clear hb1)
        go_ret
        exact ⟨by rw [HQ.out]; rfl, HB1.out⟩
      · rw [hq] at HC
        have HQ := Lib.hid ((all_snoc smCu s.l j x HG.out HA.out).trans hq)
        clear hq
        go_wp2_with (go_at_call 35; refine (HC.out _).mono ?_; rintro e w' ⟨rfl, hb1⟩; have HB1 := Lib.hid ((HB.out.alloc hsz _).trans (hb1.mono (by simp; omega))); clear hb1)
        go_roundw
        case rel => exact ⟨j + 1, by omega, by go_num, HQ.out, HB1.out⟩
        case measure => simp [intOf]; omega
    · have HT := Lib.hid (List.take_of_length_le (l := s.l) (i := j) (by omega))
      have HB := Lib.hid hbel
      clear hbel
      go_wp2_with fail
      go_ret
      exact ⟨by rw [← HA.out, HT.out]; rfl, HB.out⟩

end Go.Proofs.YtmdgemdollfnhaaGreatDoor
