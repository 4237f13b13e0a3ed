/- Contracts of math/bits.OnesCount64 and of num.ofOne: for every value of 32 and of 64 bits. -/
import Derived.Test.YtdenmbigdklhkaaDoorBits
import Derived.Test.YtdenmbigdklhkaaDoorNumA
import Derived.Test.YtdenmbigdklhkaaDoorNumMath4
namespace Go.Proofs.YtdenmbigdklhkaaDoor
open Go.RowKit

theorem OnesCount64_any (x : Int) (w : World) (h0 : 0 ≤ x) (h1 : x < 18446744073709551616) :
    Calls Tryd.prog 31 #[.int .u64 x] w fun e w' => e = .returned (.int .i64 (Num.ones 64 x.toNat)) ∧ w = w' := by
  obtain ⟨z, rfl⟩ := Int.eq_ofNat_of_zero_le h0
  obtain ⟨y1, y2, y3, y4, y5, y6, k1, k2, k3, k4, k5, k6, k7⟩ := Num.chain z (by omega)
  exact oc_core z y1 y2 y3 y4 y5 y6 _ w k1 k2 k3 k4 k5 k6 k7

theorem ones_zero : ∀ n, Num.ones n 0 = 0
  | 0 => rfl
  | n + 1 => by show Num.ones n 0 + 0 / 2 ^ n % 2 = 0; rw [ones_zero n]; simp
theorem ones_fit32 (x : Int) (h0 : 0 ≤ x) (h1 : x < 4294967296) : Num.ones 64 x.toNat = Num.ones 32 x.toNat := by
  rw [show (64 : Nat) = 32 + 32 from rfl, Num.ones_add, show x.toNat / 2 ^ 32 = 0 by omega, ones_zero]
  simp
theorem ones_fit64 (x : Int) (_ : 0 ≤ x) (_ : x < 18446744073709551616) : Num.ones 64 x.toNat = Num.ones 64 x.toNat := rfl

set_option maxHeartbeats 4000000 in
set_option maxRecDepth 100000 in
theorem one_wrap (a : Int) (w : World) (ha : 0 ≤ a ∧ a < 18446744073709551616) :
    Calls Tryd.prog 18 #[.int .i64 167, .int .i64 64, .int .u64 a] w fun e w' => e = .returned (.int .u64 (a % 4294967296)) ∧ w = w' := by
  have HC := Lib.hid (fun w => cut32 a w ha.1 ha.2)
  clear ha
  go_enter Tryd.func18, Tryd.ntmps18
  go_wp2_with (go_at_call 27; refine (HC.out _).mono ?_; rintro e w' ⟨rfl, rfl⟩)
  go_ret
  exact ⟨rfl, rfl⟩

set_option maxHeartbeats 4000000 in
set_option maxRecDepth 100000 in
theorem one_ext (a : Int) (w : World) (ha : 0 ≤ a ∧ a < 4294967296) :
    Calls Tryd.prog 18 #[.int .i64 172, .int .i64 32, .int .u64 a] w fun e w' => e = .returned (.int .u64 (Num.sg 32 a % 18446744073709551616)) ∧ w = w' := by
  have HC := Lib.hid (fun w => signed32 a w ha.1 ha.2)
  obtain ⟨s, hs⟩ : ∃ s, s = Num.sg 32 a := ⟨_, rfl⟩
  rw [← hs] at HC ⊢
  clear ha hs
  go_enter Tryd.func18, Tryd.ntmps18
  go_wp2_with (go_at_call 32; refine (HC.out _).mono ?_; rintro e w' ⟨rfl, rfl⟩)
  go_ret
  exact ⟨ret_int (IntKind.wrap_u64 _), rfl⟩

set_option maxHeartbeats 4000000 in
set_option maxRecDepth 100000 in
theorem one_extU (a : Int) (w : World) :
    Calls Tryd.prog 18 #[.int .i64 173, .int .i64 32, .int .u64 a] w fun e w' => e = .returned (.int .u64 a) ∧ w = w' := by
  go_enter Tryd.func18, Tryd.ntmps18
  go_wp2
  go_ret
  exact ⟨rfl, rfl⟩

set_option maxHeartbeats 4000000 in
set_option maxRecDepth 100000 in
theorem one_eqz32 (a : Int) (w : World) :
    Calls Tryd.prog 18 #[.int .i64 69, .int .i64 32, .int .u64 a] w fun e w' => e = .returned (.int .u64 (Num.tr (decide (a = 0)))) ∧ w = w' := by
  have HC := Lib.hid (fun b w => truth_any b w)
  go_enter Tryd.func18, Tryd.ntmps18
  go_wp2_with (go_at_call 28; with_reducible refine (HC.out _ _).mono ?_; rintro e w' ⟨rfl, rfl⟩)
  go_ret
  exact ⟨ret_int (congrArg Num.tr (by rw [Bool.eq_iff_iff]; simp)), rfl⟩

set_option maxHeartbeats 4000000 in
set_option maxRecDepth 100000 in
theorem one_cnt32 (i : Nat) (a : Int) (w : World) (hi : i < 3) (ha : 0 ≤ a ∧ a < 4294967296) (hT : TabT w) :
    Calls Tryd.prog 18 #[.int .i64 ((i : Int) + 103), .int .i64 32, .int .u64 a] w fun e w' => e = .returned (.int .u64 (Num.cntV i 32 a)) ∧ w = w' := by
  have hl : i = 0 ∨ i = 1 ∨ i = 2 := by omega
  have H0 := Lib.hid (fun w => LeadingZeros64_any a w (by omega) (by omega))
  have H1 := Lib.hid (TrailingZeros64_any a w (by omega) (by omega) hT)
  have H2 := Lib.hid (fun w => OnesCount64_any a w (by omega) (by omega))
  have hb : Lib.bitLen a.toNat ≤ 32 := Lib.bitLen_le a.toNat 32 (by decide) (by omega)
  rw [ones_fit32 a ha.1 ha.2] at H2
  have ho := Num.ones_le 32 a.toNat
  have h0 : Num.cntV 0 32 a = (32 : Int) - Lib.bitLen a.toNat := rfl
  have h1 : Num.cntV 1 32 a = min (Lib.ctz 64 a.toNat : Int) 32 := rfl
  have h2 : Num.cntV 2 32 a = (Num.ones 32 a.toNat : Int) := rfl
  obtain ⟨m, hm⟩ : ∃ m, m = Lib.bitLen a.toNat := ⟨_, rfl⟩
  obtain ⟨c, hc⟩ : ∃ c, c = Lib.ctz 64 a.toNat := ⟨_, rfl⟩
  obtain ⟨o, hoo⟩ : ∃ o, o = Num.ones 32 a.toNat := ⟨_, rfl⟩
  rw [← hm] at H0 h0 hb
  rw [← hc] at H1 h1
  rw [← hoo] at H2 h2 ho
  clear hm hc hoo ha hT
  rcases hl with rfl | rfl | rfl
  · rw [h0]
    clear h0 h1 h2
    go_enter Tryd.func18, Tryd.ntmps18
    go_wp2_with (go_at_call 29; refine (H0.out _).mono ?_; rintro e w' ⟨rfl, rfl⟩)
    go_ret
    exact ⟨ret_int (by (try rw [IntKind.wrap_u64]); omega), rfl⟩
  · rw [h1]
    clear h0 h1 h2
    go_enter Tryd.func18, Tryd.ntmps18
    go_wp2_with (go_at_call 30; refine H1.out.mono ?_; rintro e w' ⟨rfl, rfl⟩)
    all_goals
      go_ret
      exact ⟨ret_int (by (try rw [IntKind.wrap_u64]); omega), rfl⟩
  · rw [h2]
    clear h0 h1 h2
    go_enter Tryd.func18, Tryd.ntmps18
    go_wp2_with (go_at_call 31; refine (H2.out _).mono ?_; rintro e w' ⟨rfl, rfl⟩)
    go_ret
    exact ⟨ret_int (by (try rw [IntKind.wrap_u64]); omega), rfl⟩

set_option maxHeartbeats 4000000 in
set_option maxRecDepth 100000 in
theorem one_eqz64 (a : Int) (w : World) :
    Calls Tryd.prog 18 #[.int .i64 69, .int .i64 64, .int .u64 a] w fun e w' => e = .returned (.int .u64 (Num.tr (decide (a = 0)))) ∧ w = w' := by
  have HC := Lib.hid (fun b w => truth_any b w)
  go_enter Tryd.func18, Tryd.ntmps18
  go_wp2_with (go_at_call 28; with_reducible refine (HC.out _ _).mono ?_; rintro e w' ⟨rfl, rfl⟩)
  go_ret
  exact ⟨ret_int (congrArg Num.tr (by rw [Bool.eq_iff_iff]; simp)), rfl⟩

set_option maxHeartbeats 4000000 in
set_option maxRecDepth 100000 in
theorem one_cnt64 (i : Nat) (a : Int) (w : World) (hi : i < 3) (ha : 0 ≤ a ∧ a < 18446744073709551616) (hT : TabT w) :
    Calls Tryd.prog 18 #[.int .i64 ((i : Int) + 103), .int .i64 64, .int .u64 a] w fun e w' => e = .returned (.int .u64 (Num.cntV i 64 a)) ∧ w = w' := by
  have hl : i = 0 ∨ i = 1 ∨ i = 2 := by omega
  have H0 := Lib.hid (fun w => LeadingZeros64_any a w (by omega) (by omega))
  have H1 := Lib.hid (TrailingZeros64_any a w (by omega) (by omega) hT)
  have H2 := Lib.hid (fun w => OnesCount64_any a w (by omega) (by omega))
  have hb : Lib.bitLen a.toNat ≤ 64 := Lib.bitLen_le a.toNat 64 (by decide) (by omega)
  rw [ones_fit64 a ha.1 ha.2] at H2
  have ho := Num.ones_le 64 a.toNat
  have h0 : Num.cntV 0 64 a = (64 : Int) - Lib.bitLen a.toNat := rfl
  have h1 : Num.cntV 1 64 a = min (Lib.ctz 64 a.toNat : Int) 64 := rfl
  have h2 : Num.cntV 2 64 a = (Num.ones 64 a.toNat : Int) := rfl
  obtain ⟨m, hm⟩ : ∃ m, m = Lib.bitLen a.toNat := ⟨_, rfl⟩
  obtain ⟨c, hc⟩ : ∃ c, c = Lib.ctz 64 a.toNat := ⟨_, rfl⟩
  obtain ⟨o, hoo⟩ : ∃ o, o = Num.ones 64 a.toNat := ⟨_, rfl⟩
  rw [← hm] at H0 h0 hb
  rw [← hc] at H1 h1
  rw [← hoo] at H2 h2 ho
  clear hm hc hoo ha hT
  rcases hl with rfl | rfl | rfl
  · rw [h0]
    clear h0 h1 h2
    go_enter Tryd.func18, Tryd.ntmps18
    go_wp2_with (go_at_call 29; refine (H0.out _).mono ?_; rintro e w' ⟨rfl, rfl⟩)
    go_ret
    exact ⟨ret_int (by (try rw [IntKind.wrap_u64]); omega), rfl⟩
  · rw [h1]
    clear h0 h1 h2
    go_enter Tryd.func18, Tryd.ntmps18
    go_wp2_with (go_at_call 30; refine H1.out.mono ?_; rintro e w' ⟨rfl, rfl⟩)
    all_goals
      go_ret
      exact ⟨ret_int (by (try rw [IntKind.wrap_u64]); omega), rfl⟩
  · rw [h2]
    clear h0 h1 h2
    go_enter Tryd.func18, Tryd.ntmps18
    go_wp2_with (go_at_call 31; refine (H2.out _).mono ?_; rintro e w' ⟨rfl, rfl⟩)
    go_ret
    exact ⟨ret_int (by (try rw [IntKind.wrap_u64]); omega), rfl⟩

end Go.Proofs.YtdenmbigdklhkaaDoor
