/- The contract of grommetref03.divide. -/
import Derived.Test.YtdenmbigdklhkaaDoorRefB
namespace Go.Proofs.YtdenmbigdklhkaaDoor
open Go.RowKit

theorem wrap_id (x : Int) (h0 : 0 ≤ x) (h1 : x < 18446744073709551616) : IntKind.u64.wrap x = x := by rw [IntKind.wrap_u64]; omega

theorem tdiv_signs (x y : Int) (hx : 0 ≤ x) (hy : 0 ≤ y) : x.tdiv y = x / y ∧ (-x).tdiv y = -(x / y) ∧ x.tdiv (-y) = -(x / y) ∧ (-x).tdiv (-y) = x / y ∧
    x.tmod y = x % y ∧ (-x).tmod y = -(x % y) ∧ x.tmod (-y) = x % y ∧ (-x).tmod (-y) = -(x % y) := by
  have h1 : x.tdiv y = x / y := Int.tdiv_eq_ediv_of_nonneg hx
  have h2 : x.tmod y = x % y := Int.tmod_eq_emod_of_nonneg hx
  refine ⟨h1, ?_, ?_, ?_, h2, ?_, ?_, ?_⟩
  · rw [Int.neg_tdiv, h1]
  · rw [Int.tdiv_neg, h1]
  · rw [Int.neg_tdiv, Int.tdiv_neg, h1, Int.neg_neg]
  · rw [Int.neg_tmod, h2]
  · rw [Int.tmod_neg, h2]
  · rw [Int.neg_tmod, Int.tmod_neg, h2]

theorem lowE32 (z x : Int) (w : World) (hz : z = x) (h0 : 0 ≤ x) (h1 : x < 18446744073709551616) :
    Calls Tryd.prog 41 #[.int .u64 z, .int .i64 32] w fun e w' => e = .returned (.int .u64 (x % 4294967296)) ∧ w = w' := by
  subst hz; exact rlow32 z w h0 h1
theorem oppE32 (z x : Int) (w : World) (hz : z = x) (h0 : 0 ≤ x) (h1 : x < 18446744073709551616) :
    Calls Tryd.prog 39 #[.int .u64 z, .int .i64 32] w fun e w' => e = .returned (.int .u64 (-x % 4294967296)) ∧ w = w' := by
  subst hz; exact ropp32 z w h0 h1
set_option maxHeartbeats 4000000 in
set_option maxRecDepth 100000 in
theorem rdivU32 (a b : Int) (w : World) (ha : 0 ≤ a ∧ a < 4294967296) (hb : 0 ≤ b ∧ b < 4294967296) (hz : b ≠ 0) :
    Calls Tryd.prog 40 #[.int .u64 a, .int .u64 b, .int .i64 32, .bool false] w fun e w' => e = .returned (.tuple #[.int .u64 (a / b), .int .u64 (a % b)]) ∧ w = w' := by
  have q0 : 0 ≤ a / b := Int.ediv_nonneg ha.1 hb.1
  have q1 : a / b ≤ a := Int.ediv_le_self _ ha.1
  have HL := Lib.hid (fun w => rlow32 (a / b) w q0 (by omega))
  rw [Int.emod_eq_of_lt q0 (by omega)] at HL
  have hz' : (b == 0) = false := by simp [hz]
  obtain ⟨a0, a1⟩ := ha
  obtain ⟨b0, b1⟩ := hb
  clear q0 q1
  go_enter Tryd.func40, Tryd.ntmps40
  go_wp2_with (go_at_call 41; refine (HL.out _).mono ?_; rintro e w' ⟨rfl, rfl⟩)
  go_ret2
  exact ⟨rfl, rfl⟩

set_option maxHeartbeats 4000000 in
set_option maxRecDepth 100000 in
theorem rdivS32 (a b : Int) (w : World) (ha : 0 ≤ a ∧ a < 4294967296) (hb : 0 ≤ b ∧ b < 4294967296) (hz : b ≠ 0) :
    Calls Tryd.prog 40 #[.int .u64 a, .int .u64 b, .int .i64 32, .bool true] w fun e w' => e = .returned (.tuple #[.int .u64 ((Num.sg 32 a).tdiv (Num.sg 32 b) % 4294967296), .int .u64 ((Num.sg 32 a).tmod (Num.sg 32 b) % 4294967296)]) ∧ w = w' := by
  have HA := Lib.hid (fun w => rneg32 a w ha.1 ha.2)
  have HB := Lib.hid (fun w => rneg32 b w hb.1 hb.2)
  have HO := Lib.hid (fun x w h0 h1 => ropp32 x w h0 h1)
  have HL := Lib.hid (fun x w h0 h1 => rlow32 x w h0 h1)
  have ea := Num.sg32 a
  have eb := Num.sg32 b
  by_cases c1 : 2147483648 ≤ a
  · rw [if_neg (by omega)] at ea
    have ta : decide (2147483648 ≤ a) = true := by simp [c1]
    rw [ta] at HA
    have HX := Lib.hid (fun w => HO.out a w (by omega) (by omega))
    obtain ⟨x, hx⟩ : ∃ x, x = -a % 4294967296 := ⟨_, rfl⟩
    rw [← hx] at HX
    have hx0 : 0 < x ∧ x ≤ 2147483648 ∧ Num.sg 32 a = -x := by rw [ea]; omega
    by_cases c2 : 2147483648 ≤ b
    · rw [if_neg (by omega)] at eb
      have tb : decide (2147483648 ≤ b) = true := by simp [c2]
      rw [tb] at HB
      have HY := Lib.hid (fun w => HO.out b w (by omega) (by omega))
      obtain ⟨y, hy⟩ : ∃ y, y = -b % 4294967296 := ⟨_, rfl⟩
      rw [← hy] at HY
      have hy0 : 0 < y ∧ y ≤ 2147483648 ∧ Num.sg 32 b = -y := by rw [eb]; omega
      obtain ⟨_, _, _, d, _, _, _, m⟩ := tdiv_signs x y (by omega) (by omega)
      rw [hx0.2.2, hy0.2.2, d, m]
      have q0 : 0 ≤ x / y := Int.ediv_nonneg (by omega) (by omega)
      have q1 : x / y ≤ x := Int.ediv_le_self _ (by omega)
      have r0 : 0 ≤ x % y := Int.emod_nonneg _ (by omega)
      have r1 : x % y < y := Int.emod_lt_of_pos _ (by omega)
      have HR := Lib.hid (fun w => HO.out (x % y) w r0 (by omega))
      have HQ := Lib.hid (fun w => lowE32 (IntKind.u64.wrap (x / y)) (x / y) w (wrap_id _ q0 (by omega)) q0 (by omega))
      have hz' : (y == 0) = false := by simp; omega
      have x0 : 0 ≤ x := by omega
      have x1 : x < 18446744073709551616 := by omega
      clear hx0
      have y0 : 0 < y := by omega
      have y1 : y < 18446744073709551616 := by omega
      clear hy0
      clear ea eb hx hy c1 c2 ta tb d m q0 q1 r0 r1 HO HL ha hb
      go_enter Tryd.func40, Tryd.ntmps40
      go_wp2_with (first | (go_at_call 21; first | (with_reducible refine (HA.out _).mono ?_; rintro e w' ⟨rfl, rfl⟩) | (with_reducible refine (HB.out _).mono ?_; rintro e w' ⟨rfl, rfl⟩)) | (go_at_call 39; first | (with_reducible refine (HX.out _).mono ?_; rintro e w' ⟨rfl, rfl⟩) | (with_reducible refine (HY.out _).mono ?_; rintro e w' ⟨rfl, rfl⟩) | (with_reducible refine (HR.out _).mono ?_; rintro e w' ⟨rfl, rfl⟩)) | (go_at_call 41; with_reducible refine (HQ.out _).mono ?_; rintro e w' ⟨rfl, rfl⟩))
      go_ret2
      exact ⟨rfl, rfl⟩
    · rw [if_pos (by omega)] at eb
      have tb : decide (2147483648 ≤ b) = false := by simp; omega
      rw [tb] at HB
      obtain ⟨_, d, _, _, _, m, _, _⟩ := tdiv_signs x b (by omega) (by omega)
      rw [hx0.2.2, eb, d, m]
      have q0 : 0 ≤ x / b := Int.ediv_nonneg (by omega) (by omega)
      have q1 : x / b ≤ x := Int.ediv_le_self _ (by omega)
      have r0 : 0 ≤ x % b := Int.emod_nonneg _ (by omega)
      have r1 : x % b < b := Int.emod_lt_of_pos _ (by omega)
      have HR := Lib.hid (fun w => HO.out (x % b) w r0 (by omega))
      have HP := Lib.hid (fun w => oppE32 (IntKind.u64.wrap (x / b)) (x / b) w (wrap_id _ q0 (by omega)) q0 (by omega))
      have HQ := Lib.hid (fun w => HL.out (-(x / b) % 4294967296) w (by omega) (by omega))
      have hz' : (b == 0) = false := by simp; omega
      rw [show -(x / b) % 4294967296 % 4294967296 = -(x / b) % 4294967296 by omega] at HQ
      have x0 : 0 ≤ x := by omega
      have x1 : x < 18446744073709551616 := by omega
      clear hx0
      obtain ⟨b0, b1⟩ := hb
      clear ea eb hx c1 c2 ta tb d m q0 q1 r0 r1 HO HL ha
      go_enter Tryd.func40, Tryd.ntmps40
      go_wp2_with (first | (go_at_call 21; first | (with_reducible refine (HA.out _).mono ?_; rintro e w' ⟨rfl, rfl⟩) | (with_reducible refine (HB.out _).mono ?_; rintro e w' ⟨rfl, rfl⟩)) | (go_at_call 39; first | (with_reducible refine (HX.out _).mono ?_; rintro e w' ⟨rfl, rfl⟩) | (with_reducible refine (HP.out _).mono ?_; rintro e w' ⟨rfl, rfl⟩) | (with_reducible refine (HR.out _).mono ?_; rintro e w' ⟨rfl, rfl⟩)) | (go_at_call 41; with_reducible refine (HQ.out _).mono ?_; rintro e w' ⟨rfl, rfl⟩))
      go_ret2
      exact ⟨rfl, rfl⟩
  · rw [if_pos (by omega)] at ea
    have ta : decide (2147483648 ≤ a) = false := by simp; omega
    rw [ta] at HA
    by_cases c2 : 2147483648 ≤ b
    · rw [if_neg (by omega)] at eb
      have tb : decide (2147483648 ≤ b) = true := by simp [c2]
      rw [tb] at HB
      have HY := Lib.hid (fun w => HO.out b w (by omega) (by omega))
      obtain ⟨y, hy⟩ : ∃ y, y = -b % 4294967296 := ⟨_, rfl⟩
      rw [← hy] at HY
      have hy0 : 0 < y ∧ y ≤ 2147483648 ∧ Num.sg 32 b = -y := by rw [eb]; omega
      obtain ⟨_, _, d, _, _, _, m, _⟩ := tdiv_signs a y (by omega) (by omega)
      rw [ea, hy0.2.2, d, m]
      have q0 : 0 ≤ a / y := Int.ediv_nonneg (by omega) (by omega)
      have q1 : a / y ≤ a := Int.ediv_le_self _ (by omega)
      have r0 : 0 ≤ a % y := Int.emod_nonneg _ (by omega)
      have r1 : a % y < y := Int.emod_lt_of_pos _ (by omega)
      rw [Int.emod_eq_of_lt r0 (show a % y < 4294967296 by omega)]
      have HP := Lib.hid (fun w => oppE32 (IntKind.u64.wrap (a / y)) (a / y) w (wrap_id _ q0 (by omega)) q0 (by omega))
      have HQ := Lib.hid (fun w => HL.out (-(a / y) % 4294967296) w (by omega) (by omega))
      have hz' : (y == 0) = false := by simp; omega
      rw [show -(a / y) % 4294967296 % 4294967296 = -(a / y) % 4294967296 by omega] at HQ
      have y0 : 0 < y := by omega
      have y1 : y < 18446744073709551616 := by omega
      clear hy0
      obtain ⟨a0, a1⟩ := ha
      clear ea eb hy c1 c2 ta tb d m q0 q1 r0 r1 HO HL hb
      go_enter Tryd.func40, Tryd.ntmps40
      go_wp2_with (first | (go_at_call 21; first | (with_reducible refine (HA.out _).mono ?_; rintro e w' ⟨rfl, rfl⟩) | (with_reducible refine (HB.out _).mono ?_; rintro e w' ⟨rfl, rfl⟩)) | (go_at_call 39; first | (with_reducible refine (HY.out _).mono ?_; rintro e w' ⟨rfl, rfl⟩) | (with_reducible refine (HP.out _).mono ?_; rintro e w' ⟨rfl, rfl⟩)) | (go_at_call 41; with_reducible refine (HQ.out _).mono ?_; rintro e w' ⟨rfl, rfl⟩))
      go_ret2
      exact ⟨rfl, rfl⟩
    · rw [if_pos (by omega)] at eb
      have tb : decide (2147483648 ≤ b) = false := by simp; omega
      rw [tb] at HB
      obtain ⟨d, _, _, _, m, _, _, _⟩ := tdiv_signs a b (by omega) (by omega)
      rw [ea, eb, d, m]
      have q0 : 0 ≤ a / b := Int.ediv_nonneg (by omega) (by omega)
      have q1 : a / b ≤ a := Int.ediv_le_self _ (by omega)
      have r0 : 0 ≤ a % b := Int.emod_nonneg _ (by omega)
      have r1 : a % b < b := Int.emod_lt_of_pos _ (by omega)
      rw [Int.emod_eq_of_lt r0 (show a % b < 4294967296 by omega)]
      have HQ := Lib.hid (fun w => HL.out (a / b) w q0 (by omega))
      have hz' : (b == 0) = false := by simp; omega
      obtain ⟨a0, a1⟩ := ha
      obtain ⟨b0, b1⟩ := hb
      clear ea eb c1 c2 ta tb d m q0 q1 r0 r1 HO HL
      go_enter Tryd.func40, Tryd.ntmps40
      go_wp2_with (first | (go_at_call 21; first | (with_reducible refine (HA.out _).mono ?_; rintro e w' ⟨rfl, rfl⟩) | (with_reducible refine (HB.out _).mono ?_; rintro e w' ⟨rfl, rfl⟩)) | (go_at_call 41; with_reducible refine (HQ.out _).mono ?_; rintro e w' ⟨rfl, rfl⟩))
      go_ret2
      exact ⟨rfl, rfl⟩

theorem lowE64 (z x : Int) (w : World) (hz : z = x) (h0 : 0 ≤ x) (h1 : x < 18446744073709551616) :
    Calls Tryd.prog 41 #[.int .u64 z, .int .i64 64] w fun e w' => e = .returned (.int .u64 (x % 18446744073709551616)) ∧ w = w' := by
  subst hz; exact rlow64 z w h0 h1
theorem oppE64 (z x : Int) (w : World) (hz : z = x) (h0 : 0 ≤ x) (h1 : x < 18446744073709551616) :
    Calls Tryd.prog 39 #[.int .u64 z, .int .i64 64] w fun e w' => e = .returned (.int .u64 (-x % 18446744073709551616)) ∧ w = w' := by
  subst hz; exact ropp64 z w h0 h1
set_option maxHeartbeats 4000000 in
set_option maxRecDepth 100000 in
theorem rdivU64 (a b : Int) (w : World) (ha : 0 ≤ a ∧ a < 18446744073709551616) (hb : 0 ≤ b ∧ b < 18446744073709551616) (hz : b ≠ 0) :
    Calls Tryd.prog 40 #[.int .u64 a, .int .u64 b, .int .i64 64, .bool false] w fun e w' => e = .returned (.tuple #[.int .u64 (a / b), .int .u64 (a % b)]) ∧ w = w' := by
  have q0 : 0 ≤ a / b := Int.ediv_nonneg ha.1 hb.1
  have q1 : a / b ≤ a := Int.ediv_le_self _ ha.1
  have HL := Lib.hid (fun w => rlow64 (a / b) w q0 (by omega))
  rw [Int.emod_eq_of_lt q0 (by omega)] at HL
  have hz' : (b == 0) = false := by simp [hz]
  obtain ⟨a0, a1⟩ := ha
  obtain ⟨b0, b1⟩ := hb
  clear q0 q1
  go_enter Tryd.func40, Tryd.ntmps40
  go_wp2_with (go_at_call 41; refine (HL.out _).mono ?_; rintro e w' ⟨rfl, rfl⟩)
  go_ret2
  exact ⟨rfl, rfl⟩

set_option maxHeartbeats 4000000 in
set_option maxRecDepth 100000 in
theorem rdivS64 (a b : Int) (w : World) (ha : 0 ≤ a ∧ a < 18446744073709551616) (hb : 0 ≤ b ∧ b < 18446744073709551616) (hz : b ≠ 0) :
    Calls Tryd.prog 40 #[.int .u64 a, .int .u64 b, .int .i64 64, .bool true] w fun e w' => e = .returned (.tuple #[.int .u64 ((Num.sg 64 a).tdiv (Num.sg 64 b) % 18446744073709551616), .int .u64 ((Num.sg 64 a).tmod (Num.sg 64 b) % 18446744073709551616)]) ∧ w = w' := by
  have HA := Lib.hid (fun w => rneg64 a w ha.1 ha.2)
  have HB := Lib.hid (fun w => rneg64 b w hb.1 hb.2)
  have HO := Lib.hid (fun x w h0 h1 => ropp64 x w h0 h1)
  have HL := Lib.hid (fun x w h0 h1 => rlow64 x w h0 h1)
  have ea := Num.sg64 a
  have eb := Num.sg64 b
  by_cases c1 : 9223372036854775808 ≤ a
  · rw [if_neg (by omega)] at ea
    have ta : decide (9223372036854775808 ≤ a) = true := by simp [c1]
    rw [ta] at HA
    have HX := Lib.hid (fun w => HO.out a w (by omega) (by omega))
    obtain ⟨x, hx⟩ : ∃ x, x = -a % 18446744073709551616 := ⟨_, rfl⟩
    rw [← hx] at HX
    have hx0 : 0 < x ∧ x ≤ 9223372036854775808 ∧ Num.sg 64 a = -x := by rw [ea]; omega
    by_cases c2 : 9223372036854775808 ≤ b
    · rw [if_neg (by omega)] at eb
      have tb : decide (9223372036854775808 ≤ b) = true := by simp [c2]
      rw [tb] at HB
      have HY := Lib.hid (fun w => HO.out b w (by omega) (by omega))
      obtain ⟨y, hy⟩ : ∃ y, y = -b % 18446744073709551616 := ⟨_, rfl⟩
      rw [← hy] at HY
      have hy0 : 0 < y ∧ y ≤ 9223372036854775808 ∧ Num.sg 64 b = -y := by rw [eb]; omega
      obtain ⟨_, _, _, d, _, _, _, m⟩ := tdiv_signs x y (by omega) (by omega)
      rw [hx0.2.2, hy0.2.2, d, m]
      have q0 : 0 ≤ x / y := Int.ediv_nonneg (by omega) (by omega)
      have q1 : x / y ≤ x := Int.ediv_le_self _ (by omega)
      have r0 : 0 ≤ x % y := Int.emod_nonneg _ (by omega)
      have r1 : x % y < y := Int.emod_lt_of_pos _ (by omega)
      have HR := Lib.hid (fun w => HO.out (x % y) w r0 (by omega))
      have HQ := Lib.hid (fun w => lowE64 (IntKind.u64.wrap (x / y)) (x / y) w (wrap_id _ q0 (by omega)) q0 (by omega))
      have hz' : (y == 0) = false := by simp; omega
      have x0 : 0 ≤ x := by omega
      have x1 : x < 18446744073709551616 := by omega
      clear hx0
      have y0 : 0 < y := by omega
      have y1 : y < 18446744073709551616 := by omega
      clear hy0
      clear ea eb hx hy c1 c2 ta tb d m q0 q1 r0 r1 HO HL ha hb
      go_enter Tryd.func40, Tryd.ntmps40
      go_wp2_with (first | (go_at_call 21; first | (with_reducible refine (HA.out _).mono ?_; rintro e w' ⟨rfl, rfl⟩) | (with_reducible refine (HB.out _).mono ?_; rintro e w' ⟨rfl, rfl⟩)) | (go_at_call 39; first | (with_reducible refine (HX.out _).mono ?_; rintro e w' ⟨rfl, rfl⟩) | (with_reducible refine (HY.out _).mono ?_; rintro e w' ⟨rfl, rfl⟩) | (with_reducible refine (HR.out _).mono ?_; rintro e w' ⟨rfl, rfl⟩)) | (go_at_call 41; with_reducible refine (HQ.out _).mono ?_; rintro e w' ⟨rfl, rfl⟩))
      go_ret2
      exact ⟨rfl, rfl⟩
    · rw [if_pos (by omega)] at eb
      have tb : decide (9223372036854775808 ≤ b) = false := by simp; omega
      rw [tb] at HB
      obtain ⟨_, d, _, _, _, m, _, _⟩ := tdiv_signs x b (by omega) (by omega)
      rw [hx0.2.2, eb, d, m]
      have q0 : 0 ≤ x / b := Int.ediv_nonneg (by omega) (by omega)
      have q1 : x / b ≤ x := Int.ediv_le_self _ (by omega)
      have r0 : 0 ≤ x % b := Int.emod_nonneg _ (by omega)
      have r1 : x % b < b := Int.emod_lt_of_pos _ (by omega)
      have HR := Lib.hid (fun w => HO.out (x % b) w r0 (by omega))
      have HP := Lib.hid (fun w => oppE64 (IntKind.u64.wrap (x / b)) (x / b) w (wrap_id _ q0 (by omega)) q0 (by omega))
      have HQ := Lib.hid (fun w => HL.out (-(x / b) % 18446744073709551616) w (by omega) (by omega))
      have hz' : (b == 0) = false := by simp; omega
      rw [show -(x / b) % 18446744073709551616 % 18446744073709551616 = -(x / b) % 18446744073709551616 by omega] at HQ
      have x0 : 0 ≤ x := by omega
      have x1 : x < 18446744073709551616 := by omega
      clear hx0
      obtain ⟨b0, b1⟩ := hb
      clear ea eb hx c1 c2 ta tb d m q0 q1 r0 r1 HO HL ha
      go_enter Tryd.func40, Tryd.ntmps40
      go_wp2_with (first | (go_at_call 21; first | (with_reducible refine (HA.out _).mono ?_; rintro e w' ⟨rfl, rfl⟩) | (with_reducible refine (HB.out _).mono ?_; rintro e w' ⟨rfl, rfl⟩)) | (go_at_call 39; first | (with_reducible refine (HX.out _).mono ?_; rintro e w' ⟨rfl, rfl⟩) | (with_reducible refine (HP.out _).mono ?_; rintro e w' ⟨rfl, rfl⟩) | (with_reducible refine (HR.out _).mono ?_; rintro e w' ⟨rfl, rfl⟩)) | (go_at_call 41; with_reducible refine (HQ.out _).mono ?_; rintro e w' ⟨rfl, rfl⟩))
      go_ret2
      exact ⟨rfl, rfl⟩
  · rw [if_pos (by omega)] at ea
    have ta : decide (9223372036854775808 ≤ a) = false := by simp; omega
    rw [ta] at HA
    by_cases c2 : 9223372036854775808 ≤ b
    · rw [if_neg (by omega)] at eb
      have tb : decide (9223372036854775808 ≤ b) = true := by simp [c2]
      rw [tb] at HB
      have HY := Lib.hid (fun w => HO.out b w (by omega) (by omega))
      obtain ⟨y, hy⟩ : ∃ y, y = -b % 18446744073709551616 := ⟨_, rfl⟩
      rw [← hy] at HY
      have hy0 : 0 < y ∧ y ≤ 9223372036854775808 ∧ Num.sg 64 b = -y := by rw [eb]; omega
      obtain ⟨_, _, d, _, _, _, m, _⟩ := tdiv_signs a y (by omega) (by omega)
      rw [ea, hy0.2.2, d, m]
      have q0 : 0 ≤ a / y := Int.ediv_nonneg (by omega) (by omega)
      have q1 : a / y ≤ a := Int.ediv_le_self _ (by omega)
      have r0 : 0 ≤ a % y := Int.emod_nonneg _ (by omega)
      have r1 : a % y < y := Int.emod_lt_of_pos _ (by omega)
      rw [Int.emod_eq_of_lt r0 (show a % y < 18446744073709551616 by omega)]
      have HP := Lib.hid (fun w => oppE64 (IntKind.u64.wrap (a / y)) (a / y) w (wrap_id _ q0 (by omega)) q0 (by omega))
      have HQ := Lib.hid (fun w => HL.out (-(a / y) % 18446744073709551616) w (by omega) (by omega))
      have hz' : (y == 0) = false := by simp; omega
      rw [show -(a / y) % 18446744073709551616 % 18446744073709551616 = -(a / y) % 18446744073709551616 by omega] at HQ
      have y0 : 0 < y := by omega
      have y1 : y < 18446744073709551616 := by omega
      clear hy0
      obtain ⟨a0, a1⟩ := ha
      clear ea eb hy c1 c2 ta tb d m q0 q1 r0 r1 HO HL hb
      go_enter Tryd.func40, Tryd.ntmps40
      go_wp2_with (first | (go_at_call 21; first | (with_reducible refine (HA.out _).mono ?_; rintro e w' ⟨rfl, rfl⟩) | (with_reducible refine (HB.out _).mono ?_; rintro e w' ⟨rfl, rfl⟩)) | (go_at_call 39; first | (with_reducible refine (HY.out _).mono ?_; rintro e w' ⟨rfl, rfl⟩) | (with_reducible refine (HP.out _).mono ?_; rintro e w' ⟨rfl, rfl⟩)) | (go_at_call 41; with_reducible refine (HQ.out _).mono ?_; rintro e w' ⟨rfl, rfl⟩))
      go_ret2
      exact ⟨rfl, rfl⟩
    · rw [if_pos (by omega)] at eb
      have tb : decide (9223372036854775808 ≤ b) = false := by simp; omega
      rw [tb] at HB
      obtain ⟨d, _, _, _, m, _, _, _⟩ := tdiv_signs a b (by omega) (by omega)
      rw [ea, eb, d, m]
      have q0 : 0 ≤ a / b := Int.ediv_nonneg (by omega) (by omega)
      have q1 : a / b ≤ a := Int.ediv_le_self _ (by omega)
      have r0 : 0 ≤ a % b := Int.emod_nonneg _ (by omega)
      have r1 : a % b < b := Int.emod_lt_of_pos _ (by omega)
      rw [Int.emod_eq_of_lt r0 (show a % b < 18446744073709551616 by omega)]
      have HQ := Lib.hid (fun w => HL.out (a / b) w q0 (by omega))
      have hz' : (b == 0) = false := by simp; omega
      obtain ⟨a0, a1⟩ := ha
      obtain ⟨b0, b1⟩ := hb
      clear ea eb c1 c2 ta tb d m q0 q1 r0 r1 HO HL
      go_enter Tryd.func40, Tryd.ntmps40
      go_wp2_with (first | (go_at_call 21; first | (with_reducible refine (HA.out _).mono ?_; rintro e w' ⟨rfl, rfl⟩) | (with_reducible refine (HB.out _).mono ?_; rintro e w' ⟨rfl, rfl⟩)) | (go_at_call 41; with_reducible refine (HQ.out _).mono ?_; rintro e w' ⟨rfl, rfl⟩))
      go_ret2
      exact ⟨rfl, rfl⟩

end Go.Proofs.YtdenmbigdklhkaaDoor
