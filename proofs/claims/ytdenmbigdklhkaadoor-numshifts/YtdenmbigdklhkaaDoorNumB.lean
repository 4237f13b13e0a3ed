/- Contracts of num.combine, divide, turn, shift, ofTwo: for every value of 32 and of 64 bits. -/
import Derived.Test.YtdenmbigdklhkaaDoorNumA
import Derived.Lib.Walk
import Derived.Laws.Bits64
import Derived.Laws.Bits64b
namespace Go.Proofs.YtdenmbigdklhkaaDoor
open Go.RowKit

theorem bits_and_i (a b : Int) (ha : 0 ≤ a ∧ a < 18446744073709551616) (hb : 0 ≤ b ∧ b < 18446744073709551616) : bits .and .u64 a b = ((a.toNat &&& b.toNat : Nat) : Int) := by
  have h := bits_and_u64_nat a.toNat b.toNat (by omega) (by omega)
  rwa [Int.toNat_of_nonneg ha.1, Int.toNat_of_nonneg hb.1] at h
theorem bits_or_i (a b : Int) (ha : 0 ≤ a ∧ a < 18446744073709551616) (hb : 0 ≤ b ∧ b < 18446744073709551616) : bits .or .u64 a b = ((a.toNat ||| b.toNat : Nat) : Int) := by
  have h := bits_or_u64_nat a.toNat b.toNat (by omega) (by omega)
  rwa [Int.toNat_of_nonneg ha.1, Int.toNat_of_nonneg hb.1] at h
theorem bits_xor_i (a b : Int) (ha : 0 ≤ a ∧ a < 18446744073709551616) (hb : 0 ≤ b ∧ b < 18446744073709551616) : bits .xor .u64 a b = ((a.toNat ^^^ b.toNat : Nat) : Int) := by
  have h := bits_xor_u64_nat a.toNat b.toNat (by omega) (by omega)
  rwa [Int.toNat_of_nonneg ha.1, Int.toNat_of_nonneg hb.1] at h

set_option maxHeartbeats 4000000 in
set_option maxRecDepth 100000 in
theorem combine_lin (i : Nat) (a b : Int) (w : World) (hi : i < 3) :
    Calls Tryd.prog 36 #[.int .i64 ((i : Int) + 106), .int .u64 a, .int .u64 b] w fun e w' => e = .returned (.int .u64 (Num.cmbV i 64 a b)) ∧ w = w' := by
  have hl : i = 0 ∨ i = 1 ∨ i = 2 := by omega
  rcases hl with rfl | rfl | rfl
  all_goals
    go_enter Tryd.func36, Tryd.ntmps36
    go_wp2
    go_ret
    refine ⟨ret_int ?_, rfl⟩
    simp [Num.cmbV, IntKind.wrap_u64]

set_option maxHeartbeats 4000000 in
set_option maxRecDepth 100000 in
theorem combine_bit (i : Nat) (a b : Int) (w : World) (hi : 7 ≤ i ∧ i < 10) (ha : 0 ≤ a ∧ a < 18446744073709551616) (hb : 0 ≤ b ∧ b < 18446744073709551616) :
    Calls Tryd.prog 36 #[.int .i64 ((i : Int) + 106), .int .u64 a, .int .u64 b] w fun e w' => e = .returned (.int .u64 (Num.cmbV i 64 a b)) ∧ w = w' := by
  have hl : i = 7 ∨ i = 8 ∨ i = 9 := by omega
  rcases hl with rfl | rfl | rfl
  all_goals
    go_enter Tryd.func36, Tryd.ntmps36
    go_wp2
    go_ret
    refine ⟨ret_int ?_, rfl⟩
    simp [Num.cmbV]
    first | exact bits_and_i a b ha hb | exact bits_or_i a b ha hb | exact bits_xor_i a b ha hb

theorem sg_ne {n : Nat} {b : Int} (hb : Fit n b) (h : b ≠ 0) : Num.sg n b ≠ 0 := by
  rcases hb with ⟨rfl, h0, h1⟩ | ⟨rfl, h0, h1⟩
  · rw [Num.sg32]; split <;> omega
  · rw [Num.sg64]; split <;> omega
theorem sg_bound {n : Nat} {b : Int} (hb : Fit n b) : -9223372036854775808 ≤ Num.sg n b ∧ Num.sg n b ≤ 9223372036854775807 := by
  rcases hb with ⟨rfl, h0, h1⟩ | ⟨rfl, h0, h1⟩
  · rw [Num.sg32]; split <;> omega
  · rw [Num.sg64]; split <;> omega
theorem or_range (x y : Int) : 0 ≤ bits .or .u64 x y ∧ bits .or .u64 x y < 18446744073709551616 := by
  show 0 ≤ IntKind.u64.wrap _ ∧ IntKind.u64.wrap _ < _
  rw [IntKind.wrap_u64]; omega
theorem wrap_range (x : Int) : 0 ≤ IntKind.u64.wrap x ∧ IntKind.u64.wrap x < 18446744073709551616 := by rw [IntKind.wrap_u64]; omega
theorem cutw32 (q : Int) : IntKind.u64.wrap (wrap64 q) % 4294967296 = q % 2 ^ 32 := by rw [IntKind.wrap_u64]; unfold wrap64; omega
theorem cutw64 (q : Int) : IntKind.u64.wrap (wrap64 q) = q % 2 ^ 64 := by rw [IntKind.wrap_u64]; unfold wrap64; omega
theorem cutv32 (q : Int) : IntKind.u64.wrap q % 4294967296 = q % 2 ^ 32 := by rw [IntKind.wrap_u64]; omega
theorem cutv64 (q : Int) : IntKind.u64.wrap q = q % 2 ^ 64 := by rw [IntKind.wrap_u64]; omega

set_option maxHeartbeats 4000000 in
set_option maxRecDepth 100000 in
theorem divide32 (i : Nat) (a b : Int) (w : World) (hi : i < 4) (ha : 0 ≤ a ∧ a < 4294967296) (hb : 0 ≤ b ∧ b < 4294967296) :
    Calls Tryd.prog 34 #[.int .i64 ((i : Int) + 109), .int .i64 32, .int .u64 a, .int .u64 b] w fun e w' => e = .returned (.tuple #[.int .u64 (Num.divV i 32 a b).1, .int .i64 (Num.divV i 32 a b).2]) ∧ w = w' := by
  have hl : i = 0 ∨ i = 1 ∨ i = 2 ∨ i = 3 := by omega
  by_cases hz : b = 0
  · subst hz
    rcases hl with rfl | rfl | rfl | rfl
    all_goals
      go_enter Tryd.func34, Tryd.ntmps34
      go_wp2
      go_ret2
      exact ⟨rfl, rfl⟩
  have HA := Lib.hid (fun w => signed32 a w ha.1 ha.2)
  have HB := Lib.hid (fun w => signed32 b w hb.1 hb.2)
  have fa : Fit 32 a := .inl ⟨rfl, by omega, by omega⟩
  have fb : Fit 32 b := .inl ⟨rfl, by omega, by omega⟩
  have hsb := sg_bound fa
  have htb := sg_bound fb
  have ht0 := sg_ne fb hz
  clear fa fb
  have hs := Num.sg32 a
  have ht := Num.sg32 b
  obtain ⟨s, hss⟩ : ∃ s, s = Num.sg 32 a := ⟨_, rfl⟩
  obtain ⟨t, htt⟩ : ∃ t, t = Num.sg 32 b := ⟨_, rfl⟩
  rw [← hss] at HA hsb hs
  rw [← htt] at HB htb ht0 ht
  have hz' : (b == 0) = false := by simp [hz]
  have hz2 : (t == 0) = false := by simp [ht0]
  obtain ⟨a0, a1⟩ := ha
  obtain ⟨b0, b1⟩ := hb
  rcases hl with rfl | rfl | rfl | rfl
  · by_cases hov : a = 2147483648 ∧ t = -1
    · obtain ⟨rfl, rfl⟩ := hov
      have hb1 : b = 4294967296 - 1 := by split at ht <;> omega
      have hfin : Num.divV 0 32 2147483648 b = (0, 3) := by simp [Num.divV, hb1]
      rw [hfin]
      clear hs ht hss htt hfin hsb htb hb1
      go_enter Tryd.func34, Tryd.ntmps34
      go_wp2_with (go_at_call 32; first | (with_reducible refine (HA.out _).mono ?_; rintro e w' ⟨rfl, rfl⟩) | (with_reducible refine (HB.out _).mono ?_; rintro e w' ⟨rfl, rfl⟩))
      go_ret2
      exact ⟨rfl, rfl⟩
    · have hbn : ¬ (a = 2 ^ (32 - 1) ∧ b = 2 ^ 32 - 1) := by
        rintro ⟨h1, h2⟩
        refine hov ⟨by rw [h1]; decide, ?_⟩
        rw [ht, h2]
        decide
      have hfin : Num.divV 0 32 a b = (s.tdiv t % 2 ^ 32, 0) := by rw [hss, htt]; simp only [Num.divV, if_neg hz, if_neg hbn, if_true]
      rw [hfin]
      by_cases ha2 : a = 2147483648
      · have ht1 : ¬ t = -1 := fun h => hov ⟨ha2, h⟩
        have t1 : (t == -1) = false := by simp [ht1]
        subst ha2
        clear hs ht hss htt hfin hsb htb hov hbn ht1
        go_enter Tryd.func34, Tryd.ntmps34
        go_wp2_with (go_at_call 32; first | (with_reducible refine (HA.out _).mono ?_; rintro e w' ⟨rfl, rfl⟩) | (with_reducible refine (HB.out _).mono ?_; rintro e w' ⟨rfl, rfl⟩))
        with_reducible refine (cut32 _ _ (wrap_range _).1 (wrap_range _).2).mono ?_
        rintro e w' ⟨rfl, rfl⟩
        go_wp2
        go_ret2
        exact ⟨ret2 (congrArg (Value.int .u64) (cutw32 _)) rfl, rfl⟩
      · have t1 : (a == 2147483648) = false := by simp [ha2]
        clear hs ht hss htt hfin hsb htb hov hbn
        go_enter Tryd.func34, Tryd.ntmps34
        go_wp2_with (go_at_call 32; first | (with_reducible refine (HA.out _).mono ?_; rintro e w' ⟨rfl, rfl⟩) | (with_reducible refine (HB.out _).mono ?_; rintro e w' ⟨rfl, rfl⟩))
        with_reducible refine (cut32 _ _ (wrap_range _).1 (wrap_range _).2).mono ?_
        rintro e w' ⟨rfl, rfl⟩
        go_wp2
        go_ret2
        exact ⟨ret2 (congrArg (Value.int .u64) (cutw32 _)) rfl, rfl⟩
  · have hfin : Num.divV 1 32 a b = (a / b, 0) := by simp [Num.divV, hz]
    rw [hfin]
    clear hs ht hss htt hfin hsb htb ht0
    go_enter Tryd.func34, Tryd.ntmps34
    go_wp2_with (go_at_call 32; first | (with_reducible refine (HA.out _).mono ?_; rintro e w' ⟨rfl, rfl⟩) | (with_reducible refine (HB.out _).mono ?_; rintro e w' ⟨rfl, rfl⟩))
    go_ret2
    exact ⟨rfl, rfl⟩
  · have hfin : Num.divV 2 32 a b = (s.tmod t % 2 ^ 32, 0) := by rw [hss, htt]; simp [Num.divV, hz]
    rw [hfin]
    clear hs ht hss htt hfin hsb htb
    go_enter Tryd.func34, Tryd.ntmps34
    go_wp2_with (go_at_call 32; first | (with_reducible refine (HA.out _).mono ?_; rintro e w' ⟨rfl, rfl⟩) | (with_reducible refine (HB.out _).mono ?_; rintro e w' ⟨rfl, rfl⟩))
    with_reducible refine (cut32 _ _ (wrap_range _).1 (wrap_range _).2).mono ?_
    rintro e w' ⟨rfl, rfl⟩
    go_wp2
    go_ret2
    exact ⟨ret2 (congrArg (Value.int .u64) (cutv32 _)) rfl, rfl⟩
  · have hfin : Num.divV 3 32 a b = (a % b, 0) := by simp [Num.divV, hz]
    rw [hfin]
    clear hs ht hss htt hfin hsb htb ht0
    go_enter Tryd.func34, Tryd.ntmps34
    go_wp2_with (go_at_call 32; first | (with_reducible refine (HA.out _).mono ?_; rintro e w' ⟨rfl, rfl⟩) | (with_reducible refine (HB.out _).mono ?_; rintro e w' ⟨rfl, rfl⟩))
    go_ret2
    exact ⟨rfl, rfl⟩

set_option maxHeartbeats 4000000 in
set_option maxRecDepth 100000 in
theorem divide64 (i : Nat) (a b : Int) (w : World) (hi : i < 4) (ha : 0 ≤ a ∧ a < 18446744073709551616) (hb : 0 ≤ b ∧ b < 18446744073709551616) :
    Calls Tryd.prog 34 #[.int .i64 ((i : Int) + 109), .int .i64 64, .int .u64 a, .int .u64 b] w fun e w' => e = .returned (.tuple #[.int .u64 (Num.divV i 64 a b).1, .int .i64 (Num.divV i 64 a b).2]) ∧ w = w' := by
  have hl : i = 0 ∨ i = 1 ∨ i = 2 ∨ i = 3 := by omega
  by_cases hz : b = 0
  · subst hz
    rcases hl with rfl | rfl | rfl | rfl
    all_goals
      go_enter Tryd.func34, Tryd.ntmps34
      go_wp2
      go_ret2
      exact ⟨rfl, rfl⟩
  have HA := Lib.hid (fun w => signed64 a w ha.1 ha.2)
  have HB := Lib.hid (fun w => signed64 b w hb.1 hb.2)
  have fa : Fit 64 a := .inr ⟨rfl, by omega, by omega⟩
  have fb : Fit 64 b := .inr ⟨rfl, by omega, by omega⟩
  have hsb := sg_bound fa
  have htb := sg_bound fb
  have ht0 := sg_ne fb hz
  clear fa fb
  have hs := Num.sg64 a
  have ht := Num.sg64 b
  obtain ⟨s, hss⟩ : ∃ s, s = Num.sg 64 a := ⟨_, rfl⟩
  obtain ⟨t, htt⟩ : ∃ t, t = Num.sg 64 b := ⟨_, rfl⟩
  rw [← hss] at HA hsb hs
  rw [← htt] at HB htb ht0 ht
  have hz' : (b == 0) = false := by simp [hz]
  have hz2 : (t == 0) = false := by simp [ht0]
  obtain ⟨a0, a1⟩ := ha
  obtain ⟨b0, b1⟩ := hb
  rcases hl with rfl | rfl | rfl | rfl
  · by_cases hov : a = 9223372036854775808 ∧ t = -1
    · obtain ⟨rfl, rfl⟩ := hov
      have hb1 : b = 18446744073709551616 - 1 := by split at ht <;> omega
      have hfin : Num.divV 0 64 9223372036854775808 b = (0, 3) := by simp [Num.divV, hb1]
      rw [hfin]
      clear hs ht hss htt hfin hsb htb hb1
      go_enter Tryd.func34, Tryd.ntmps34
      go_wp2_with (go_at_call 32; first | (with_reducible refine (HA.out _).mono ?_; rintro e w' ⟨rfl, rfl⟩) | (with_reducible refine (HB.out _).mono ?_; rintro e w' ⟨rfl, rfl⟩))
      go_ret2
      exact ⟨rfl, rfl⟩
    · have hbn : ¬ (a = 2 ^ (64 - 1) ∧ b = 2 ^ 64 - 1) := by
        rintro ⟨h1, h2⟩
        refine hov ⟨by rw [h1]; decide, ?_⟩
        rw [ht, h2]
        decide
      have hfin : Num.divV 0 64 a b = (s.tdiv t % 2 ^ 64, 0) := by rw [hss, htt]; simp only [Num.divV, if_neg hz, if_neg hbn, if_true]
      rw [hfin]
      by_cases ha2 : a = 9223372036854775808
      · have ht1 : ¬ t = -1 := fun h => hov ⟨ha2, h⟩
        have t1 : (t == -1) = false := by simp [ht1]
        subst ha2
        clear hs ht hss htt hfin hsb htb hov hbn ht1
        go_enter Tryd.func34, Tryd.ntmps34
        go_wp2_with (go_at_call 32; first | (with_reducible refine (HA.out _).mono ?_; rintro e w' ⟨rfl, rfl⟩) | (with_reducible refine (HB.out _).mono ?_; rintro e w' ⟨rfl, rfl⟩))
        with_reducible refine (cut64 _ _ (wrap_range _).1 (wrap_range _).2).mono ?_
        rintro e w' ⟨rfl, rfl⟩
        go_wp2
        go_ret2
        exact ⟨ret2 (congrArg (Value.int .u64) (cutw64 _)) rfl, rfl⟩
      · have t1 : (a == 9223372036854775808) = false := by simp [ha2]
        clear hs ht hss htt hfin hsb htb hov hbn
        go_enter Tryd.func34, Tryd.ntmps34
        go_wp2_with (go_at_call 32; first | (with_reducible refine (HA.out _).mono ?_; rintro e w' ⟨rfl, rfl⟩) | (with_reducible refine (HB.out _).mono ?_; rintro e w' ⟨rfl, rfl⟩))
        with_reducible refine (cut64 _ _ (wrap_range _).1 (wrap_range _).2).mono ?_
        rintro e w' ⟨rfl, rfl⟩
        go_wp2
        go_ret2
        exact ⟨ret2 (congrArg (Value.int .u64) (cutw64 _)) rfl, rfl⟩
  · have hfin : Num.divV 1 64 a b = (a / b, 0) := by simp [Num.divV, hz]
    rw [hfin]
    clear hs ht hss htt hfin hsb htb ht0
    go_enter Tryd.func34, Tryd.ntmps34
    go_wp2_with (go_at_call 32; first | (with_reducible refine (HA.out _).mono ?_; rintro e w' ⟨rfl, rfl⟩) | (with_reducible refine (HB.out _).mono ?_; rintro e w' ⟨rfl, rfl⟩))
    go_ret2
    exact ⟨rfl, rfl⟩
  · have hfin : Num.divV 2 64 a b = (s.tmod t % 2 ^ 64, 0) := by rw [hss, htt]; simp [Num.divV, hz]
    rw [hfin]
    clear hs ht hss htt hfin hsb htb
    go_enter Tryd.func34, Tryd.ntmps34
    go_wp2_with (go_at_call 32; first | (with_reducible refine (HA.out _).mono ?_; rintro e w' ⟨rfl, rfl⟩) | (with_reducible refine (HB.out _).mono ?_; rintro e w' ⟨rfl, rfl⟩))
    with_reducible refine (cut64 _ _ (wrap_range _).1 (wrap_range _).2).mono ?_
    rintro e w' ⟨rfl, rfl⟩
    go_wp2
    go_ret2
    exact ⟨ret2 (congrArg (Value.int .u64) (cutv64 _)) rfl, rfl⟩
  · have hfin : Num.divV 3 64 a b = (a % b, 0) := by simp [Num.divV, hz]
    rw [hfin]
    clear hs ht hss htt hfin hsb htb ht0
    go_enter Tryd.func34, Tryd.ntmps34
    go_wp2_with (go_at_call 32; first | (with_reducible refine (HA.out _).mono ?_; rintro e w' ⟨rfl, rfl⟩) | (with_reducible refine (HB.out _).mono ?_; rintro e w' ⟨rfl, rfl⟩))
    go_ret2
    exact ⟨rfl, rfl⟩

end Go.Proofs.YtdenmbigdklhkaaDoor
