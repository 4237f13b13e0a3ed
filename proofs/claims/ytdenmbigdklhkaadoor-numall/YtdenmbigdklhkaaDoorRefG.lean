/- The contract of grommetref03.two. -/
import Derived.Test.YtdenmbigdklhkaaDoorRefF
namespace Go.Proofs.YtdenmbigdklhkaaDoor
open Go.RowKit

set_option maxHeartbeats 8000000 in
set_option maxRecDepth 100000 in
theorem rtwoL32 (i : Nat) (a b : Int) (w : World) (hi : i = 0 ∨ i = 1 ∨ i = 2) (ha : 0 ≤ a ∧ a < 4294967296) (hb : 0 ≤ b ∧ b < 4294967296) :
    Calls Tryd.prog 24 #[.int .i64 i, .int .u64 a, .int .u64 b, .int .i64 32] w fun e w' => e = .returned (.tuple #[.int .u64 (Num.cmbV i 32 a b), .int .i64 0]) ∧ w = w' := by
  have HL := Lib.hid (fun x w => rlow32 (IntKind.u64.wrap x) w (wrap_range x).1 (wrap_range x).2)
  have HO := Lib.hid (fun w => ropp32 b w hb.1 (by omega))
  obtain ⟨a0, a1⟩ := ha
  obtain ⟨b0, b1⟩ := hb
  rcases hi with rfl | rfl | rfl
  · have e : Num.cmbV 0 32 a b = IntKind.u64.wrap (a + b) % 4294967296 := by
      show (a + b) % 4294967296 = _
      rw [IntKind.wrap_u64]; omega
    rw [e]
    clear e
    skip
    go_enter Tryd.func24, Tryd.ntmps24
    go_wp2_with fail
    refine (rlow32 _ _ (by (try rw [IntKind.wrap_u64]); omega) (by (try rw [IntKind.wrap_u64]); omega)).mono ?_
    rintro e w' ⟨rfl, rfl⟩
    go_wp2
    go_ret2
    exact ⟨ret2 (congrArg (Value.int .u64) (by (try rw [IntKind.wrap_u64]); (try rw [IntKind.wrap_u64]); omega)) rfl, rfl⟩
  · have e : Num.cmbV 1 32 a b = IntKind.u64.wrap (a + -b % 4294967296) % 4294967296 := by
      show (a - b) % 4294967296 = _
      rw [IntKind.wrap_u64]; omega
    rw [e]
    clear e
    go_enter Tryd.func24, Tryd.ntmps24
    go_wp2_with (go_at_call 39; refine (HO.out _).mono ?_; rintro e w' ⟨rfl, rfl⟩)
    refine (rlow32 _ _ (by (try rw [IntKind.wrap_u64]); omega) (by (try rw [IntKind.wrap_u64]); omega)).mono ?_
    rintro e w' ⟨rfl, rfl⟩
    go_wp2
    go_ret2
    exact ⟨ret2 (congrArg (Value.int .u64) (by (try rw [IntKind.wrap_u64]); (try rw [IntKind.wrap_u64]); omega)) rfl, rfl⟩
  · have e : Num.cmbV 2 32 a b = IntKind.u64.wrap (a * b) % 4294967296 := by
      show a * b % 4294967296 = _
      rw [IntKind.wrap_u64]
      generalize a * b = c
      omega
    rw [e]
    clear e
    go_enter Tryd.func24, Tryd.ntmps24
    go_wp2_with fail
    refine (HL.out _ _).mono ?_
    rintro e w' ⟨rfl, rfl⟩
    go_wp2
    go_ret2
    exact ⟨rfl, rfl⟩

set_option maxHeartbeats 8000000 in
set_option maxRecDepth 100000 in
theorem rtwoS32 (o : Int) (i : Nat) (a b : Int) (w : World) (ho : o = i) (hi : 10 ≤ i ∧ i < 15) (ha : 0 ≤ a ∧ a < 4294967296) (hb : 0 ≤ b ∧ b < 4294967296) :
    Calls Tryd.prog 24 #[.int .i64 o, .int .u64 a, .int .u64 b, .int .i64 32] w fun e w' => e = .returned (.tuple #[.int .u64 (Num.shfV (i - 10) 32 a (b % 32).toNat), .int .i64 0]) ∧ w = w' := by
  have HS := Lib.hid (fun w => rshift32 (o - 10) (i - 10) a (b % 32).toNat w (by omega) (by omega) ha (by omega))
  have hk : (((b % 32).toNat : Nat) : Int) = b % 32 := by omega
  rw [hk] at HS
  obtain ⟨r, hr⟩ : ∃ r, r = Num.shfV (i - 10) 32 a (b % 32).toNat := ⟨_, rfl⟩
  rw [← hr] at HS ⊢
  have o1 : 10 ≤ o := by omega
  have o2 : o ≤ 14 := by omega
  have t0 : (o == 0) = false := by simp; omega
  have t1 : (o == 1) = false := by simp; omega
  have t2 : (o == 2) = false := by simp; omega
  obtain ⟨b0, b1⟩ := hb
  clear hr hk ha ho hi
  go_enter Tryd.func24, Tryd.ntmps24
  go_wp2_with (go_at_call 42; refine (HS.out _).mono ?_; rintro e w' ⟨rfl, rfl⟩)
  go_ret2
  exact ⟨rfl, rfl⟩

set_option maxHeartbeats 8000000 in
set_option maxRecDepth 100000 in
theorem rtwoD32 (i : Nat) (a b : Int) (w : World) (hi : i = 3 ∨ i = 4 ∨ i = 5 ∨ i = 6) (ha : 0 ≤ a ∧ a < 4294967296) (hb : 0 ≤ b ∧ b < 4294967296) :
    Calls Tryd.prog 24 #[.int .i64 i, .int .u64 a, .int .u64 b, .int .i64 32] w fun e w' => e = .returned (.tuple #[.int .u64 (Num.divV (i - 3) 32 a b).1, .int .i64 (Num.divV (i - 3) 32 a b).2]) ∧ w = w' := by
  by_cases hz : b = 0
  · subst hz
    rcases hi with rfl | rfl | rfl | rfl
    all_goals
      go_enter Tryd.func24, Tryd.ntmps24
      go_wp2
      go_ret2
      exact ⟨rfl, rfl⟩
  have hz' : (b == 0) = false := by simp [hz]
  rcases hi with rfl | rfl | rfl | rfl
  · have HO := Lib.hid (fun w => ropp32 b w hb.1 (by omega))
    have HD := Lib.hid (fun w => rdivS32 a b w ha hb hz)
    by_cases hA : a = 2147483648
    · by_cases hB : b = 4294967296 - 1
      · have hfin : Num.divV (3 - 3) 32 a b = (0, 3) := by rw [hA, hB]; decide
        rw [hfin]
        have ho : -b % 4294967296 = 1 := by omega
        rw [ho] at HO
        subst hA
        clear hfin ho hB ha hb HD
        go_enter Tryd.func24, Tryd.ntmps24
        go_wp2_with (go_at_call 39; refine (HO.out _).mono ?_; rintro e w' ⟨rfl, rfl⟩)
        go_ret2
        exact ⟨rfl, rfl⟩
      · have hfin : Num.divV (3 - 3) 32 a b = ((Num.sg 32 a).tdiv (Num.sg 32 b) % 4294967296, 0) := by
          show Num.divV 0 32 a b = _
          unfold Num.divV
          rw [if_neg hz, if_pos rfl, if_neg (show ¬ (a = 2 ^ (32 - 1) ∧ b = 2 ^ 32 - 1) from fun h => hB h.2)]
          rfl
        rw [hfin]
        obtain ⟨q, hq⟩ : ∃ q, q = (Num.sg 32 a).tdiv (Num.sg 32 b) % 4294967296 := ⟨_, rfl⟩
        obtain ⟨r, hr⟩ : ∃ r, r = (Num.sg 32 a).tmod (Num.sg 32 b) % 4294967296 := ⟨_, rfl⟩
        rw [← hq, ← hr] at HD
        rw [← hq]
        obtain ⟨m, hm⟩ : ∃ m, m = -b % 4294967296 := ⟨_, rfl⟩
        have hm1 : (m == 1) = false := by simp; omega
        rw [← hm] at HO
        subst hA
        clear hfin hq hr hm hB ha hb
        go_enter Tryd.func24, Tryd.ntmps24
        go_wp2_with (first | (go_at_call 39; refine (HO.out _).mono ?_; rintro e w' ⟨rfl, rfl⟩) | (go_at_call 40; refine (HD.out _).mono ?_; rintro e w' ⟨rfl, rfl⟩))
        go_ret2
        exact ⟨rfl, rfl⟩
    · have hfin : Num.divV (3 - 3) 32 a b = ((Num.sg 32 a).tdiv (Num.sg 32 b) % 4294967296, 0) := by
        show Num.divV 0 32 a b = _
        unfold Num.divV
        rw [if_neg hz, if_pos rfl, if_neg (show ¬ (a = 2 ^ (32 - 1) ∧ b = 2 ^ 32 - 1) from fun h => hA h.1)]
        rfl
      rw [hfin]
      obtain ⟨q, hq⟩ : ∃ q, q = (Num.sg 32 a).tdiv (Num.sg 32 b) % 4294967296 := ⟨_, rfl⟩
      obtain ⟨r, hr⟩ : ∃ r, r = (Num.sg 32 a).tmod (Num.sg 32 b) % 4294967296 := ⟨_, rfl⟩
      rw [← hq, ← hr] at HD
      rw [← hq]
      have hA' : (a == 2147483648) = false := by simp [hA]
      clear hfin hq hr ha hb
      go_enter Tryd.func24, Tryd.ntmps24
      go_wp2_with (first | (go_at_call 39; refine (HO.out _).mono ?_; rintro e w' ⟨rfl, rfl⟩) | (go_at_call 40; refine (HD.out _).mono ?_; rintro e w' ⟨rfl, rfl⟩))
      go_ret2
      exact ⟨rfl, rfl⟩
  · have HO : True := trivial
    have HD := Lib.hid (fun w => rdivU32 a b w ha hb hz)
    have hfin : Num.divV (4 - 3) 32 a b = (a / b, 0) := by
      show Num.divV 1 32 a b = _
      unfold Num.divV
      rw [if_neg hz, if_neg (by decide), if_pos rfl]
    rw [hfin]
    clear hfin ha hb
    go_enter Tryd.func24, Tryd.ntmps24
    go_wp2_with (go_at_call 40; refine (HD.out _).mono ?_; rintro e w' ⟨rfl, rfl⟩)
    go_ret2
    exact ⟨rfl, rfl⟩
  · have HD := Lib.hid (fun w => rdivS32 a b w ha hb hz)
    have hfin : Num.divV (5 - 3) 32 a b = ((Num.sg 32 a).tmod (Num.sg 32 b) % 4294967296, 0) := by
      show Num.divV 2 32 a b = _
      unfold Num.divV
      rw [if_neg hz, if_neg (by decide), if_neg (by decide), if_pos rfl]
      rfl
    rw [hfin]
    obtain ⟨q, hq⟩ : ∃ q, q = (Num.sg 32 a).tdiv (Num.sg 32 b) % 4294967296 := ⟨_, rfl⟩
    obtain ⟨r, hr⟩ : ∃ r, r = (Num.sg 32 a).tmod (Num.sg 32 b) % 4294967296 := ⟨_, rfl⟩
    rw [← hq, ← hr] at HD
    rw [← hr]
    clear hfin hq hr ha hb
    go_enter Tryd.func24, Tryd.ntmps24
    go_wp2_with (go_at_call 40; refine (HD.out _).mono ?_; rintro e w' ⟨rfl, rfl⟩)
    go_ret2
    exact ⟨rfl, rfl⟩
  · have HD := Lib.hid (fun w => rdivU32 a b w ha hb hz)
    have hfin : Num.divV (6 - 3) 32 a b = (a % b, 0) := by
      show Num.divV 3 32 a b = _
      unfold Num.divV
      rw [if_neg hz, if_neg (by decide), if_neg (by decide), if_neg (by decide)]
    rw [hfin]
    clear hfin ha hb
    go_enter Tryd.func24, Tryd.ntmps24
    go_wp2_with (go_at_call 40; refine (HD.out _).mono ?_; rintro e w' ⟨rfl, rfl⟩)
    go_ret2
    exact ⟨rfl, rfl⟩

theorem rtwo32 (o : Int) (i : Nat) (a b : Int) (w : World) (ho : o = i) (hi : i < 15) (ha : 0 ≤ a ∧ a < 4294967296) (hb : 0 ≤ b ∧ b < 4294967296) :
    Calls Tryd.prog 24 #[.int .i64 o, .int .u64 a, .int .u64 b, .int .i64 32] w fun e w' => e = .returned (.tuple #[.int .u64 (Num.twoV i 32 a b).1, .int .i64 (Num.twoV i 32 a b).2]) ∧ w = w' := by
  by_cases h1 : 3 ≤ i ∧ i ≤ 6
  · have e : Num.twoV i 32 a b = Num.divV (i - 3) 32 a b := by simp only [Num.twoV, if_pos h1]
    rw [e, ho]
    exact rtwoD32 i a b w (by omega) ha hb
  · by_cases h2 : 10 ≤ i
    · have e : Num.twoV i 32 a b = (Num.shfV (i - 10) 32 a (b % 32).toNat, 0) := by simp only [Num.twoV, if_neg h1, if_pos h2]; rfl
      rw [e]
      exact rtwoS32 o i a b w ho (by omega) ha hb
    · have e : Num.twoV i 32 a b = (Num.cmbV i 32 a b, 0) := by simp only [Num.twoV, if_neg h1, if_neg h2]
      rw [e]
      by_cases h3 : i < 3
      · rw [ho]
        exact rtwoL32 i a b w (by omega) ha hb
      · exact rtwoB32 o i a b w ho (by omega) ha hb

set_option maxHeartbeats 8000000 in
set_option maxRecDepth 100000 in
theorem rtwoL64 (i : Nat) (a b : Int) (w : World) (hi : i = 0 ∨ i = 1 ∨ i = 2) (ha : 0 ≤ a ∧ a < 18446744073709551616) (hb : 0 ≤ b ∧ b < 18446744073709551616) :
    Calls Tryd.prog 24 #[.int .i64 i, .int .u64 a, .int .u64 b, .int .i64 64] w fun e w' => e = .returned (.tuple #[.int .u64 (Num.cmbV i 64 a b), .int .i64 0]) ∧ w = w' := by
  have HL := Lib.hid (fun x w => rlow64 (IntKind.u64.wrap x) w (wrap_range x).1 (wrap_range x).2)
  have HO := Lib.hid (fun w => ropp64 b w hb.1 (by omega))
  obtain ⟨a0, a1⟩ := ha
  obtain ⟨b0, b1⟩ := hb
  rcases hi with rfl | rfl | rfl
  · have e : Num.cmbV 0 64 a b = IntKind.u64.wrap (a + b) % 18446744073709551616 := by
      show (a + b) % 18446744073709551616 = _
      rw [IntKind.wrap_u64]; omega
    rw [e]
    clear e
    skip
    go_enter Tryd.func24, Tryd.ntmps24
    go_wp2_with fail
    refine (HL.out _ _).mono ?_
    rintro e w' ⟨rfl, rfl⟩
    go_wp2
    go_ret2
    exact ⟨ret2 (congrArg (Value.int .u64) (by rfl)) rfl, rfl⟩
  · have e : Num.cmbV 1 64 a b = IntKind.u64.wrap (a + -b % 18446744073709551616) % 18446744073709551616 := by
      show (a - b) % 18446744073709551616 = _
      rw [IntKind.wrap_u64]; omega
    rw [e]
    clear e
    go_enter Tryd.func24, Tryd.ntmps24
    go_wp2_with (go_at_call 39; refine (HO.out _).mono ?_; rintro e w' ⟨rfl, rfl⟩)
    refine (HL.out _ _).mono ?_
    rintro e w' ⟨rfl, rfl⟩
    go_wp2
    go_ret2
    exact ⟨ret2 (congrArg (Value.int .u64) (by rfl)) rfl, rfl⟩
  · have e : Num.cmbV 2 64 a b = IntKind.u64.wrap (a * b) % 18446744073709551616 := by
      show a * b % 18446744073709551616 = _
      rw [IntKind.wrap_u64]
      generalize a * b = c
      omega
    rw [e]
    clear e
    go_enter Tryd.func24, Tryd.ntmps24
    go_wp2_with fail
    refine (HL.out _ _).mono ?_
    rintro e w' ⟨rfl, rfl⟩
    go_wp2
    go_ret2
    exact ⟨rfl, rfl⟩

set_option maxHeartbeats 8000000 in
set_option maxRecDepth 100000 in
theorem rtwoS64 (o : Int) (i : Nat) (a b : Int) (w : World) (ho : o = i) (hi : 10 ≤ i ∧ i < 15) (ha : 0 ≤ a ∧ a < 18446744073709551616) (hb : 0 ≤ b ∧ b < 18446744073709551616) :
    Calls Tryd.prog 24 #[.int .i64 o, .int .u64 a, .int .u64 b, .int .i64 64] w fun e w' => e = .returned (.tuple #[.int .u64 (Num.shfV (i - 10) 64 a (b % 64).toNat), .int .i64 0]) ∧ w = w' := by
  have HS := Lib.hid (fun w => rshift64 (o - 10) (i - 10) a (b % 64).toNat w (by omega) (by omega) ha (by omega))
  have hk : (((b % 64).toNat : Nat) : Int) = b % 64 := by omega
  rw [hk] at HS
  obtain ⟨r, hr⟩ : ∃ r, r = Num.shfV (i - 10) 64 a (b % 64).toNat := ⟨_, rfl⟩
  rw [← hr] at HS ⊢
  have o1 : 10 ≤ o := by omega
  have o2 : o ≤ 14 := by omega
  have t0 : (o == 0) = false := by simp; omega
  have t1 : (o == 1) = false := by simp; omega
  have t2 : (o == 2) = false := by simp; omega
  obtain ⟨b0, b1⟩ := hb
  clear hr hk ha ho hi
  go_enter Tryd.func24, Tryd.ntmps24
  go_wp2_with (go_at_call 42; refine (HS.out _).mono ?_; rintro e w' ⟨rfl, rfl⟩)
  go_ret2
  exact ⟨rfl, rfl⟩

set_option maxHeartbeats 8000000 in
set_option maxRecDepth 100000 in
theorem rtwoD64 (i : Nat) (a b : Int) (w : World) (hi : i = 3 ∨ i = 4 ∨ i = 5 ∨ i = 6) (ha : 0 ≤ a ∧ a < 18446744073709551616) (hb : 0 ≤ b ∧ b < 18446744073709551616) :
    Calls Tryd.prog 24 #[.int .i64 i, .int .u64 a, .int .u64 b, .int .i64 64] w fun e w' => e = .returned (.tuple #[.int .u64 (Num.divV (i - 3) 64 a b).1, .int .i64 (Num.divV (i - 3) 64 a b).2]) ∧ w = w' := by
  by_cases hz : b = 0
  · subst hz
    rcases hi with rfl | rfl | rfl | rfl
    all_goals
      go_enter Tryd.func24, Tryd.ntmps24
      go_wp2
      go_ret2
      exact ⟨rfl, rfl⟩
  have hz' : (b == 0) = false := by simp [hz]
  rcases hi with rfl | rfl | rfl | rfl
  · have HO := Lib.hid (fun w => ropp64 b w hb.1 (by omega))
    have HD := Lib.hid (fun w => rdivS64 a b w ha hb hz)
    by_cases hA : a = 9223372036854775808
    · by_cases hB : b = 18446744073709551616 - 1
      · have hfin : Num.divV (3 - 3) 64 a b = (0, 3) := by rw [hA, hB]; decide
        rw [hfin]
        have ho : -b % 18446744073709551616 = 1 := by omega
        rw [ho] at HO
        subst hA
        clear hfin ho hB ha hb HD
        go_enter Tryd.func24, Tryd.ntmps24
        go_wp2_with (go_at_call 39; refine (HO.out _).mono ?_; rintro e w' ⟨rfl, rfl⟩)
        go_ret2
        exact ⟨rfl, rfl⟩
      · have hfin : Num.divV (3 - 3) 64 a b = ((Num.sg 64 a).tdiv (Num.sg 64 b) % 18446744073709551616, 0) := by
          show Num.divV 0 64 a b = _
          unfold Num.divV
          rw [if_neg hz, if_pos rfl, if_neg (show ¬ (a = 2 ^ (64 - 1) ∧ b = 2 ^ 64 - 1) from fun h => hB h.2)]
          rfl
        rw [hfin]
        obtain ⟨q, hq⟩ : ∃ q, q = (Num.sg 64 a).tdiv (Num.sg 64 b) % 18446744073709551616 := ⟨_, rfl⟩
        obtain ⟨r, hr⟩ : ∃ r, r = (Num.sg 64 a).tmod (Num.sg 64 b) % 18446744073709551616 := ⟨_, rfl⟩
        rw [← hq, ← hr] at HD
        rw [← hq]
        obtain ⟨m, hm⟩ : ∃ m, m = -b % 18446744073709551616 := ⟨_, rfl⟩
        have hm1 : (m == 1) = false := by simp; omega
        rw [← hm] at HO
        subst hA
        clear hfin hq hr hm hB ha hb
        go_enter Tryd.func24, Tryd.ntmps24
        go_wp2_with (first | (go_at_call 39; refine (HO.out _).mono ?_; rintro e w' ⟨rfl, rfl⟩) | (go_at_call 40; refine (HD.out _).mono ?_; rintro e w' ⟨rfl, rfl⟩))
        go_ret2
        exact ⟨rfl, rfl⟩
    · have hfin : Num.divV (3 - 3) 64 a b = ((Num.sg 64 a).tdiv (Num.sg 64 b) % 18446744073709551616, 0) := by
        show Num.divV 0 64 a b = _
        unfold Num.divV
        rw [if_neg hz, if_pos rfl, if_neg (show ¬ (a = 2 ^ (64 - 1) ∧ b = 2 ^ 64 - 1) from fun h => hA h.1)]
        rfl
      rw [hfin]
      obtain ⟨q, hq⟩ : ∃ q, q = (Num.sg 64 a).tdiv (Num.sg 64 b) % 18446744073709551616 := ⟨_, rfl⟩
      obtain ⟨r, hr⟩ : ∃ r, r = (Num.sg 64 a).tmod (Num.sg 64 b) % 18446744073709551616 := ⟨_, rfl⟩
      rw [← hq, ← hr] at HD
      rw [← hq]
      have hA' : (a == 9223372036854775808) = false := by simp [hA]
      clear hfin hq hr ha hb
      go_enter Tryd.func24, Tryd.ntmps24
      go_wp2_with (first | (go_at_call 39; refine (HO.out _).mono ?_; rintro e w' ⟨rfl, rfl⟩) | (go_at_call 40; refine (HD.out _).mono ?_; rintro e w' ⟨rfl, rfl⟩))
      go_ret2
      exact ⟨rfl, rfl⟩
  · have HO : True := trivial
    have HD := Lib.hid (fun w => rdivU64 a b w ha hb hz)
    have hfin : Num.divV (4 - 3) 64 a b = (a / b, 0) := by
      show Num.divV 1 64 a b = _
      unfold Num.divV
      rw [if_neg hz, if_neg (by decide), if_pos rfl]
    rw [hfin]
    clear hfin ha hb
    go_enter Tryd.func24, Tryd.ntmps24
    go_wp2_with (go_at_call 40; refine (HD.out _).mono ?_; rintro e w' ⟨rfl, rfl⟩)
    go_ret2
    exact ⟨rfl, rfl⟩
  · have HD := Lib.hid (fun w => rdivS64 a b w ha hb hz)
    have hfin : Num.divV (5 - 3) 64 a b = ((Num.sg 64 a).tmod (Num.sg 64 b) % 18446744073709551616, 0) := by
      show Num.divV 2 64 a b = _
      unfold Num.divV
      rw [if_neg hz, if_neg (by decide), if_neg (by decide), if_pos rfl]
      rfl
    rw [hfin]
    obtain ⟨q, hq⟩ : ∃ q, q = (Num.sg 64 a).tdiv (Num.sg 64 b) % 18446744073709551616 := ⟨_, rfl⟩
    obtain ⟨r, hr⟩ : ∃ r, r = (Num.sg 64 a).tmod (Num.sg 64 b) % 18446744073709551616 := ⟨_, rfl⟩
    rw [← hq, ← hr] at HD
    rw [← hr]
    clear hfin hq hr ha hb
    go_enter Tryd.func24, Tryd.ntmps24
    go_wp2_with (go_at_call 40; refine (HD.out _).mono ?_; rintro e w' ⟨rfl, rfl⟩)
    go_ret2
    exact ⟨rfl, rfl⟩
  · have HD := Lib.hid (fun w => rdivU64 a b w ha hb hz)
    have hfin : Num.divV (6 - 3) 64 a b = (a % b, 0) := by
      show Num.divV 3 64 a b = _
      unfold Num.divV
      rw [if_neg hz, if_neg (by decide), if_neg (by decide), if_neg (by decide)]
    rw [hfin]
    clear hfin ha hb
    go_enter Tryd.func24, Tryd.ntmps24
    go_wp2_with (go_at_call 40; refine (HD.out _).mono ?_; rintro e w' ⟨rfl, rfl⟩)
    go_ret2
    exact ⟨rfl, rfl⟩

theorem rtwo64 (o : Int) (i : Nat) (a b : Int) (w : World) (ho : o = i) (hi : i < 15) (ha : 0 ≤ a ∧ a < 18446744073709551616) (hb : 0 ≤ b ∧ b < 18446744073709551616) :
    Calls Tryd.prog 24 #[.int .i64 o, .int .u64 a, .int .u64 b, .int .i64 64] w fun e w' => e = .returned (.tuple #[.int .u64 (Num.twoV i 64 a b).1, .int .i64 (Num.twoV i 64 a b).2]) ∧ w = w' := by
  by_cases h1 : 3 ≤ i ∧ i ≤ 6
  · have e : Num.twoV i 64 a b = Num.divV (i - 3) 64 a b := by simp only [Num.twoV, if_pos h1]
    rw [e, ho]
    exact rtwoD64 i a b w (by omega) ha hb
  · by_cases h2 : 10 ≤ i
    · have e : Num.twoV i 64 a b = (Num.shfV (i - 10) 64 a (b % 64).toNat, 0) := by simp only [Num.twoV, if_neg h1, if_pos h2]; rfl
      rw [e]
      exact rtwoS64 o i a b w ho (by omega) ha hb
    · have e : Num.twoV i 64 a b = (Num.cmbV i 64 a b, 0) := by simp only [Num.twoV, if_neg h1, if_neg h2]
      rw [e]
      by_cases h3 : i < 3
      · rw [ho]
        exact rtwoL64 i a b w (by omega) ha hb
      · exact rtwoB64 o i a b w ho (by omega) ha hb

end Go.Proofs.YtdenmbigdklhkaaDoor
