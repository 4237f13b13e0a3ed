/- Contracts of grommetref03.truth, bit, low, negative, opposite, less, compare. -/
import Derived.Test.YtdenmbigdklhkaaDoorNumH
namespace Go.Proofs.YtdenmbigdklhkaaDoor
open Go.RowKit

theorem rtruth_any (b : Bool) (w : World) :
    Calls Tryd.prog 20 #[.bool b] w fun e w' => e = .returned (.int .u64 (Num.tr b)) ∧ w = w' := by
  cases b
  all_goals
    go_enter Tryd.func20, Tryd.ntmps20
    go_wp2
    go_ret
    exact ⟨rfl, rfl⟩

theorem and_one (x : Int) (h0 : 0 ≤ x) (h1 : x < 18446744073709551616) : bits .and .u64 x 1 = x % 2 := by
  obtain ⟨z, rfl⟩ := Int.eq_ofNat_of_zero_le h0
  have h := bits_and_u64_nat z 1 (by omega) (by decide)
  rw [Nat.and_one_is_mod] at h
  have h2 : bits .and .u64 (z : Int) 1 = ((z % 2 : Nat) : Int) := h
  rw [h2]
  omega

theorem not_eq (a : Int) (h0 : 0 ≤ a) (h1 : a < 18446744073709551616) : bits .xor .u64 IntKind.u64.max a = 18446744073709551615 - a := by
  obtain ⟨z, rfl⟩ := Int.eq_ofNat_of_zero_le h0
  have hz : z < 2 ^ 64 := by omega
  have h := bits_xor_u64_nat 18446744073709551615 z (by decide) (by omega)
  have e : (18446744073709551615 : Nat) ^^^ z = 18446744073709551615 - z := by
    have e2 : (2 ^ 64 - 1) ^^^ z = 2 ^ 64 - (z + 1) := by
      apply Nat.eq_of_testBit_eq
      intro i
      rw [Nat.testBit_xor, Nat.testBit_two_pow_sub_succ hz, Nat.testBit_two_pow_sub_one]
      by_cases hi : i < 64
      · simp [hi]
      · have : z.testBit i = false := Nat.testBit_lt_two_pow (Nat.lt_of_lt_of_le hz (Nat.pow_le_pow_right (by decide) (by omega)))
        simp [hi, this]
    rw [show (18446744073709551615 : Nat) = 2 ^ 64 - 1 from rfl, e2]
    omega
  rw [e] at h
  have hm : IntKind.u64.max = ((18446744073709551615 : Nat) : Int) := by decide
  rw [hm, h]
  omega

theorem div_range (a : Int) (k : Nat) (h0 : 0 ≤ a) (h1 : a < 18446744073709551616) : 0 ≤ a / 2 ^ k ∧ a / 2 ^ k < 18446744073709551616 := by
  have h2 : 0 ≤ a / 2 ^ k := Int.ediv_nonneg h0 (Int.le_of_lt (Int.pow_pos (by decide)))
  have h3 : a / 2 ^ k ≤ a := Int.ediv_le_self _ h0
  omega

set_option maxHeartbeats 4000000 in
theorem rbit_any (a : Int) (k : Nat) (w : World) (h0 : 0 ≤ a) (h1 : a < 18446744073709551616) (hk : k < 64) :
    Calls Tryd.prog 37 #[.int .u64 a, .int .i64 k] w fun e w' => e = .returned (.int .u64 (a / 2 ^ k % 2)) ∧ w = w' := by
  have hr := Lib.hid (div_range a k h0 h1)
  go_enter Tryd.func37, Tryd.ntmps37
  go_wp2
  go_ret
  exact ⟨ret_int (and_one _ hr.out.1 hr.out.2), rfl⟩

theorem rlow32 (a : Int) (w : World) (h0 : 0 ≤ a) (h1 : a < 18446744073709551616) :
    Calls Tryd.prog 41 #[.int .u64 a, .int .i64 32] w fun e w' => e = .returned (.int .u64 (a % 4294967296)) ∧ w = w' := by
  go_enter Tryd.func41, Tryd.ntmps41
  go_wp2
  go_ret
  exact ⟨ret_int (by first | rfl | omega), rfl⟩

theorem rlow64 (a : Int) (w : World) (h0 : 0 ≤ a) (h1 : a < 18446744073709551616) :
    Calls Tryd.prog 41 #[.int .u64 a, .int .i64 64] w fun e w' => e = .returned (.int .u64 (a % 18446744073709551616)) ∧ w = w' := by
  rw [Int.emod_eq_of_lt h0 h1]
  go_enter Tryd.func41, Tryd.ntmps41
  go_wp2
  go_ret
  exact ⟨rfl, rfl⟩

theorem rneg32 (a : Int) (w : World) (h0 : 0 ≤ a) (h1 : a < 4294967296) :
    Calls Tryd.prog 21 #[.int .u64 a, .int .i64 32] w fun e w' => e = .returned (.bool (decide (2147483648 ≤ a))) ∧ w = w' := by
  have H := Lib.hid (fun w => rbit_any a 31 w h0 (by omega) (by decide))
  rw [show (((31 : Nat) : Int)) = 31 from rfl, show a / 2 ^ 31 % 2 = a / 2147483648 % 2 from rfl] at H
  have hr : a / 2147483648 % 2 = if 2147483648 ≤ a then 1 else 0 := by split <;> omega
  rw [hr] at H
  by_cases hc : 2147483648 ≤ a
  · rw [if_pos hc] at H
    go_enter Tryd.func21, Tryd.ntmps21
    go_wp2_with (go_at_call 37; refine (H.out _).mono ?_; rintro e w' ⟨rfl, rfl⟩)
    go_ret
    exact ⟨ret_bool (by simp [hc]), rfl⟩
  · rw [if_neg hc] at H
    go_enter Tryd.func21, Tryd.ntmps21
    go_wp2_with (go_at_call 37; refine (H.out _).mono ?_; rintro e w' ⟨rfl, rfl⟩)
    go_ret
    exact ⟨ret_bool (by simp; omega), rfl⟩

theorem ropp32 (a : Int) (w : World) (h0 : 0 ≤ a) (h1 : a < 18446744073709551616) :
    Calls Tryd.prog 39 #[.int .u64 a, .int .i64 32] w fun e w' => e = .returned (.int .u64 (-a % 4294967296)) ∧ w = w' := by
  have H := Lib.hid (fun x w h0 h1 => rlow32 x w h0 h1)
  have HX := Lib.hid (not_eq a h0 h1)
  go_enter Tryd.func39, Tryd.ntmps39
  go_wp2_with fail
  refine (H.out _ _ (by (try rw [IntKind.wrap_u64]); omega) (by (try rw [IntKind.wrap_u64]); omega)).mono ?_
  rintro e w' ⟨rfl, rfl⟩
  go_wp2
  go_ret
  exact ⟨ret_int (by (try rw [IntKind.wrap_u64]); rw [HX.out]; omega), rfl⟩

theorem rless32 (a b : Int) (sign : Bool) (w : World) (ha : 0 ≤ a ∧ a < 4294967296) (hb : 0 ≤ b ∧ b < 4294967296) :
    Calls Tryd.prog 38 #[.int .u64 a, .int .u64 b, .int .i64 32, .bool sign] w fun e w' => e = .returned (.bool (if sign then decide (Num.sg 32 a < Num.sg 32 b) else decide (a < b))) ∧ w = w' := by
  have HA := Lib.hid (fun w => rneg32 a w ha.1 ha.2)
  have HB := Lib.hid (fun w => rneg32 b w hb.1 hb.2)
  have ea := Num.sg32 a
  have eb := Num.sg32 b
  obtain ⟨x, hx⟩ : ∃ x, x = decide (2147483648 ≤ a) := ⟨_, rfl⟩
  obtain ⟨y, hy⟩ : ∃ y, y = decide (2147483648 ≤ b) := ⟨_, rfl⟩
  rw [← hx] at HA
  rw [← hy] at HB
  have hr : decide (Num.sg 32 a < Num.sg 32 b) = if x = y then decide (a < b) else x := by
    rw [ea, eb, hx, hy]
    by_cases c1 : 2147483648 ≤ a <;> by_cases c2 : 2147483648 ≤ b
    · rw [if_neg (by omega), if_neg (by omega)]; simp [c1, c2] <;> omega
    · rw [if_neg (by omega), if_pos (by omega)]; simp [c1, c2] <;> omega
    · rw [if_pos (by omega), if_neg (by omega)]; simp [c1, c2] <;> omega
    · rw [if_pos (by omega), if_pos (by omega)]; simp [c1, c2]
  rw [hr]
  clear hr ea eb hx hy ha hb
  cases sign <;> cases x <;> cases y
  all_goals
    go_enter Tryd.func38, Tryd.ntmps38
    go_wp2_with (go_at_call 21; first | (with_reducible refine (HA.out _).mono ?_; rintro e w' ⟨rfl, rfl⟩) | (with_reducible refine (HB.out _).mono ?_; rintro e w' ⟨rfl, rfl⟩))
    go_ret
    exact ⟨ret_bool (by simp), rfl⟩

set_option maxHeartbeats 4000000 in
set_option maxRecDepth 100000 in
theorem rcompare32 (o : Int) (i : Nat) (a b : Int) (w : World) (ho : o = i) (hi : i < 10) (ha : 0 ≤ a ∧ a < 4294967296) (hb : 0 ≤ b ∧ b < 4294967296) :
    Calls Tryd.prog 22 #[.int .i64 o, .int .u64 a, .int .u64 b, .int .i64 32] w fun e w' => e = .returned (.bool (Num.cmpV i 32 a b)) ∧ w = w' := by
  have hl : i = 0 ∨ i = 1 ∨ i = 2 ∨ i = 3 ∨ i = 4 ∨ i = 5 ∨ i = 6 ∨ i = 7 ∨ i = 8 ∨ i = 9 := by omega
  have H1 := Lib.hid (fun s w => rless32 a b s w ha hb)
  have H2 := Lib.hid (fun s w => rless32 b a s w hb ha)
  subst ho
  clear ha hb hi
  obtain ⟨s, hs⟩ : ∃ s, s = Num.sg 32 a := ⟨_, rfl⟩
  obtain ⟨t, ht⟩ : ∃ t, t = Num.sg 32 b := ⟨_, rfl⟩
  rw [← hs, ← ht] at H1 H2
  have HS := Lib.hid hs
  have HT := Lib.hid ht
  clear hs ht
  rcases hl with rfl | rfl | rfl | rfl | rfl | rfl | rfl | rfl | rfl | rfl
  all_goals
    go_enter Tryd.func22, Tryd.ntmps22
    go_wp2_with (go_at_call 38; first | (with_reducible refine (H1.out _ _).mono ?_; rintro e w' ⟨rfl, rfl⟩) | (with_reducible refine (H2.out _ _).mono ?_; rintro e w' ⟨rfl, rfl⟩))
    all_goals
      go_ret
      refine ⟨ret_bool ?_, rfl⟩
      simp only [Num.cmpV, ← HS.out, ← HT.out]
      rw [Bool.eq_iff_iff]
      simp
      try omega

theorem rneg64 (a : Int) (w : World) (h0 : 0 ≤ a) (h1 : a < 18446744073709551616) :
    Calls Tryd.prog 21 #[.int .u64 a, .int .i64 64] w fun e w' => e = .returned (.bool (decide (9223372036854775808 ≤ a))) ∧ w = w' := by
  have H := Lib.hid (fun w => rbit_any a 63 w h0 (by omega) (by decide))
  rw [show (((63 : Nat) : Int)) = 63 from rfl, show a / 2 ^ 63 % 2 = a / 9223372036854775808 % 2 from rfl] at H
  have hr : a / 9223372036854775808 % 2 = if 9223372036854775808 ≤ a then 1 else 0 := by split <;> omega
  rw [hr] at H
  by_cases hc : 9223372036854775808 ≤ a
  · rw [if_pos hc] at H
    go_enter Tryd.func21, Tryd.ntmps21
    go_wp2_with (go_at_call 37; refine (H.out _).mono ?_; rintro e w' ⟨rfl, rfl⟩)
    go_ret
    exact ⟨ret_bool (by simp [hc]), rfl⟩
  · rw [if_neg hc] at H
    go_enter Tryd.func21, Tryd.ntmps21
    go_wp2_with (go_at_call 37; refine (H.out _).mono ?_; rintro e w' ⟨rfl, rfl⟩)
    go_ret
    exact ⟨ret_bool (by simp; omega), rfl⟩

theorem ropp64 (a : Int) (w : World) (h0 : 0 ≤ a) (h1 : a < 18446744073709551616) :
    Calls Tryd.prog 39 #[.int .u64 a, .int .i64 64] w fun e w' => e = .returned (.int .u64 (-a % 18446744073709551616)) ∧ w = w' := by
  have H := Lib.hid (fun x w h0 h1 => rlow64 x w h0 h1)
  have HX := Lib.hid (not_eq a h0 h1)
  go_enter Tryd.func39, Tryd.ntmps39
  go_wp2_with fail
  refine (H.out _ _ (by (try rw [IntKind.wrap_u64]); omega) (by (try rw [IntKind.wrap_u64]); omega)).mono ?_
  rintro e w' ⟨rfl, rfl⟩
  go_wp2
  go_ret
  exact ⟨ret_int (by (try rw [IntKind.wrap_u64]); rw [HX.out]; omega), rfl⟩

theorem rless64 (a b : Int) (sign : Bool) (w : World) (ha : 0 ≤ a ∧ a < 18446744073709551616) (hb : 0 ≤ b ∧ b < 18446744073709551616) :
    Calls Tryd.prog 38 #[.int .u64 a, .int .u64 b, .int .i64 64, .bool sign] w fun e w' => e = .returned (.bool (if sign then decide (Num.sg 64 a < Num.sg 64 b) else decide (a < b))) ∧ w = w' := by
  have HA := Lib.hid (fun w => rneg64 a w ha.1 ha.2)
  have HB := Lib.hid (fun w => rneg64 b w hb.1 hb.2)
  have ea := Num.sg64 a
  have eb := Num.sg64 b
  obtain ⟨x, hx⟩ : ∃ x, x = decide (9223372036854775808 ≤ a) := ⟨_, rfl⟩
  obtain ⟨y, hy⟩ : ∃ y, y = decide (9223372036854775808 ≤ b) := ⟨_, rfl⟩
  rw [← hx] at HA
  rw [← hy] at HB
  have hr : decide (Num.sg 64 a < Num.sg 64 b) = if x = y then decide (a < b) else x := by
    rw [ea, eb, hx, hy]
    by_cases c1 : 9223372036854775808 ≤ a <;> by_cases c2 : 9223372036854775808 ≤ b
    · rw [if_neg (by omega), if_neg (by omega)]; simp [c1, c2] <;> omega
    · rw [if_neg (by omega), if_pos (by omega)]; simp [c1, c2] <;> omega
    · rw [if_pos (by omega), if_neg (by omega)]; simp [c1, c2] <;> omega
    · rw [if_pos (by omega), if_pos (by omega)]; simp [c1, c2]
  rw [hr]
  clear hr ea eb hx hy ha hb
  cases sign <;> cases x <;> cases y
  all_goals
    go_enter Tryd.func38, Tryd.ntmps38
    go_wp2_with (go_at_call 21; first | (with_reducible refine (HA.out _).mono ?_; rintro e w' ⟨rfl, rfl⟩) | (with_reducible refine (HB.out _).mono ?_; rintro e w' ⟨rfl, rfl⟩))
    go_ret
    exact ⟨ret_bool (by simp), rfl⟩

set_option maxHeartbeats 4000000 in
set_option maxRecDepth 100000 in
theorem rcompare64 (o : Int) (i : Nat) (a b : Int) (w : World) (ho : o = i) (hi : i < 10) (ha : 0 ≤ a ∧ a < 18446744073709551616) (hb : 0 ≤ b ∧ b < 18446744073709551616) :
    Calls Tryd.prog 22 #[.int .i64 o, .int .u64 a, .int .u64 b, .int .i64 64] w fun e w' => e = .returned (.bool (Num.cmpV i 64 a b)) ∧ w = w' := by
  have hl : i = 0 ∨ i = 1 ∨ i = 2 ∨ i = 3 ∨ i = 4 ∨ i = 5 ∨ i = 6 ∨ i = 7 ∨ i = 8 ∨ i = 9 := by omega
  have H1 := Lib.hid (fun s w => rless64 a b s w ha hb)
  have H2 := Lib.hid (fun s w => rless64 b a s w hb ha)
  subst ho
  clear ha hb hi
  obtain ⟨s, hs⟩ : ∃ s, s = Num.sg 64 a := ⟨_, rfl⟩
  obtain ⟨t, ht⟩ : ∃ t, t = Num.sg 64 b := ⟨_, rfl⟩
  rw [← hs, ← ht] at H1 H2
  have HS := Lib.hid hs
  have HT := Lib.hid ht
  clear hs ht
  rcases hl with rfl | rfl | rfl | rfl | rfl | rfl | rfl | rfl | rfl | rfl
  all_goals
    go_enter Tryd.func22, Tryd.ntmps22
    go_wp2_with (go_at_call 38; first | (with_reducible refine (H1.out _ _).mono ?_; rintro e w' ⟨rfl, rfl⟩) | (with_reducible refine (H2.out _ _).mono ?_; rintro e w' ⟨rfl, rfl⟩))
    all_goals
      go_ret
      refine ⟨ret_bool ?_, rfl⟩
      simp only [Num.cmpV, ← HS.out, ← HT.out]
      rw [Bool.eq_iff_iff]
      simp
      try omega

end Go.Proofs.YtdenmbigdklhkaaDoor
