/- Contracts of num.ofTwo: for every value of 32 and of 64 bits. -/
import Derived.Test.YtdenmbigdklhkaaDoorNumC
import Derived.Test.YtdenmbigdklhkaaDoorNumMath3
namespace Go.Proofs.YtdenmbigdklhkaaDoor
open Go.RowKit

set_option maxHeartbeats 4000000 in
set_option maxRecDepth 100000 in
theorem two_cmp32 (o : Int) (i : Nat) (a b : Int) (w : World) (ho : o = (i : Int) + 70) (hi : i < 10) (ha : 0 ≤ a ∧ a < 4294967296) (hb : 0 ≤ b ∧ b < 4294967296) :
    Calls Tryd.prog 19 #[.int .i64 o, .int .i64 32, .int .u64 a, .int .u64 b] w fun e w' => e = .returned (.tuple #[.int .u64 (Num.tr (Num.cmpV i 32 a b)), .int .i64 0]) ∧ ∃ nq, w' = w.drewN nq := by
  have HC := Lib.hid (fun w => compare_any i 32 a b w hi (.inl ⟨rfl, by omega, by omega⟩) (.inl ⟨rfl, by omega, by omega⟩))
  rw [← ho] at HC
  have hq : decide (69 ≤ o ∧ o ≤ 79) = true := by simp; omega
  have HI := Lib.hid (fun w => isAsk_any o w)
  rw [hq] at HI
  clear hq ha hb ho
  go_enter Tryd.func19, Tryd.ntmps19
  go_wp2_with (first | (go_at_call 25; with_reducible refine (HI.out _).mono ?_; rintro e w' ⟨rfl, rfl⟩) | (go_at_call 33; refine (HC.out _).mono ?_; rintro e w' ⟨rfl, rfl⟩) | (go_at_call 28; with_reducible refine (truth_any _ _).mono ?_; rintro e w' ⟨rfl, rfl⟩))
  go_ret2
  exact ⟨rfl, 0, rfl⟩

set_option maxHeartbeats 4000000 in
set_option maxRecDepth 100000 in
theorem two_div32 (o : Int) (i : Nat) (a b : Int) (w : World) (ho : o = (i : Int) + 109) (hi : i < 4) (ha : 0 ≤ a ∧ a < 4294967296) (hb : 0 ≤ b ∧ b < 4294967296) :
    Calls Tryd.prog 19 #[.int .i64 o, .int .i64 32, .int .u64 a, .int .u64 b] w fun e w' => e = .returned (.tuple #[.int .u64 (Num.divV i 32 a b).1, .int .i64 (Num.divV i 32 a b).2]) ∧ ∃ nq, w' = w.drewN nq := by
  have HC := Lib.hid (fun w => divide32 i a b w hi ha hb)
  rw [← ho] at HC
  have hq : decide (69 ≤ o ∧ o ≤ 79) = false := by simp; omega
  have HI := Lib.hid (fun w => isAsk_any o w)
  rw [hq] at HI
  have h1 : 109 ≤ o := by omega
  have h2 : o ≤ 112 := by omega
  clear hq ha hb ho
  obtain ⟨x, hx⟩ : ∃ x, x = (Num.divV i 32 a b).1 := ⟨_, rfl⟩
  obtain ⟨y, hy⟩ : ∃ y, y = (Num.divV i 32 a b).2 := ⟨_, rfl⟩
  rw [← hx, ← hy] at HC ⊢
  clear hx hy
  go_enter Tryd.func19, Tryd.ntmps19
  go_wp2_with (first | (go_at_call 25; with_reducible refine (HI.out _).mono ?_; rintro e w' ⟨rfl, rfl⟩) | (go_at_call 34; refine (HC.out _).mono ?_; rintro e w' ⟨rfl, rfl⟩))
  go_ret2
  exact ⟨rfl, 0, rfl⟩

set_option maxHeartbeats 4000000 in
set_option maxRecDepth 100000 in
theorem two_shf32 (o : Int) (i : Nat) (a b : Int) (w : World) (ho : o = (i : Int) + 116) (hi : i < 5) (ha : 0 ≤ a ∧ a < 4294967296) (hb : 0 ≤ b ∧ b < 4294967296) :
    Calls Tryd.prog 19 #[.int .i64 o, .int .i64 32, .int .u64 a, .int .u64 b] w fun e w' => e = .returned (.tuple #[.int .u64 (Num.shfV i 32 a (b % 32).toNat), .int .i64 0]) ∧ ∃ nq, w' = w.drewN nq := by
  have HC := Lib.hid (fun w => shift32 i a (b % 32).toNat w hi ha (by omega))
  rw [← ho] at HC
  have hq : decide (69 ≤ o ∧ o ≤ 79) = false := by simp; omega
  have HI := Lib.hid (fun w => isAsk_any o w)
  rw [hq] at HI
  have h1 : 116 ≤ o := by omega
  have hk : (((b % 32).toNat : Nat) : Int) = b % 32 := by omega
  rw [hk] at HC
  obtain ⟨x, hx⟩ : ∃ x, x = (Num.shfV i 32 a (b % 32).toNat) := ⟨_, rfl⟩
  rw [← hx] at HC ⊢
  clear hx hk
  obtain ⟨b0, b1⟩ := hb
  clear hq ha ho
  go_enter Tryd.func19, Tryd.ntmps19
  go_wp2_with (first | (go_at_call 25; with_reducible refine (HI.out _).mono ?_; rintro e w' ⟨rfl, rfl⟩) | (go_at_call 35; refine (HC.out _).mono ?_; rintro e w' ⟨rfl, nq, rfl⟩))
  go_ret2
  exact ⟨rfl, _, rfl⟩

set_option maxHeartbeats 4000000 in
set_option maxRecDepth 100000 in
theorem two_cmb32 (o : Int) (i : Nat) (a b : Int) (w : World) (ho : o = (i : Int) + 106) (hi : i < 3 ∨ (7 ≤ i ∧ i < 10)) (ha : 0 ≤ a ∧ a < 4294967296) (hb : 0 ≤ b ∧ b < 4294967296) :
    Calls Tryd.prog 19 #[.int .i64 o, .int .i64 32, .int .u64 a, .int .u64 b] w fun e w' => e = .returned (.tuple #[.int .u64 (Num.cmbV i 32 a b), .int .i64 0]) ∧ ∃ nq, w' = w.drewN nq := by
  have HC : Hid (∀ w, Calls Tryd.prog 36 #[.int .i64 o, .int .u64 a, .int .u64 b] w fun e w' => e = .returned (.int .u64 (Num.cmbV i 64 a b)) ∧ w = w') := Lib.hid (fun w => by
    rw [ho]
    rcases hi with hi | hi
    · exact combine_lin i a b w hi
    · exact combine_bit i a b w hi (by omega) (by omega))
  have hr := Num.cmb_range i a b (by omega) (by omega)
  have hc := Num.cmb_cut32 i a b hi ha hb
  have hq : decide (69 ≤ o ∧ o ≤ 79) = false := by simp; omega
  have HI := Lib.hid (fun w => isAsk_any o w)
  rw [hq] at HI
  obtain ⟨x, hx⟩ : ∃ x, x = (Num.cmbV i 64 a b) := ⟨_, rfl⟩
  rw [← hx] at HC hr hc
  have hc' : Num.cmbV i 32 a b = x % 4294967296 := hc.symm
  rw [hc']
  clear hq ha hb hc hx hc'
  have HX := Lib.hid (fun w => cut32 x w hr.1 hr.2)
  have h1 : ¬ o ≥ 116 := by omega
  rcases hi with hi | hi
  · have h2 : ¬ o ≥ 109 := by omega
    clear ho hr hi
    go_enter Tryd.func19, Tryd.ntmps19
    go_wp2_with (first | (go_at_call 25; with_reducible refine (HI.out _).mono ?_; rintro e w' ⟨rfl, rfl⟩) | (go_at_call 36; refine (HC.out _).mono ?_; rintro e w' ⟨rfl, rfl⟩) | (go_at_call 27; refine (HX.out _).mono ?_; rintro e w' ⟨rfl, rfl⟩))
    go_ret2
    exact ⟨rfl, 0, rfl⟩
  · have h2 : o ≥ 109 := by omega
    have h3 : ¬ o ≤ 112 := by omega
    clear ho hr hi
    go_enter Tryd.func19, Tryd.ntmps19
    go_wp2_with (first | (go_at_call 25; with_reducible refine (HI.out _).mono ?_; rintro e w' ⟨rfl, rfl⟩) | (go_at_call 36; refine (HC.out _).mono ?_; rintro e w' ⟨rfl, rfl⟩) | (go_at_call 27; refine (HX.out _).mono ?_; rintro e w' ⟨rfl, rfl⟩))
    go_ret2
    exact ⟨rfl, 0, rfl⟩

theorem ofTwo32 (o : Int) (i : Nat) (a b : Int) (w : World) (ho : o = (i : Int) + 106) (hi : i < 15) (ha : 0 ≤ a ∧ a < 4294967296) (hb : 0 ≤ b ∧ b < 4294967296) :
    Calls Tryd.prog 19 #[.int .i64 o, .int .i64 32, .int .u64 a, .int .u64 b] w fun e w' => e = .returned (.tuple #[.int .u64 (Num.twoV i 32 a b).1, .int .i64 (Num.twoV i 32 a b).2]) ∧ ∃ nq, w' = w.drewN nq := by
  by_cases h1 : 3 ≤ i ∧ i ≤ 6
  · have e : Num.twoV i 32 a b = Num.divV (i - 3) 32 a b := by simp only [Num.twoV, if_pos h1]
    rw [e]
    exact two_div32 o (i - 3) a b w (by omega) (by omega) ha hb
  · by_cases h2 : 10 ≤ i
    · have e : Num.twoV i 32 a b = (Num.shfV (i - 10) 32 a (b % 32).toNat, 0) := by simp only [Num.twoV, if_neg h1, if_pos h2]; rfl
      rw [e]
      exact two_shf32 o (i - 10) a b w (by omega) (by omega) ha hb
    · have e : Num.twoV i 32 a b = (Num.cmbV i 32 a b, 0) := by simp only [Num.twoV, if_neg h1, if_neg h2]
      rw [e]
      exact two_cmb32 o i a b w ho (by omega) ha hb

set_option maxHeartbeats 4000000 in
set_option maxRecDepth 100000 in
theorem two_cmp64 (o : Int) (i : Nat) (a b : Int) (w : World) (ho : o = (i : Int) + 70) (hi : i < 10) (ha : 0 ≤ a ∧ a < 18446744073709551616) (hb : 0 ≤ b ∧ b < 18446744073709551616) :
    Calls Tryd.prog 19 #[.int .i64 o, .int .i64 64, .int .u64 a, .int .u64 b] w fun e w' => e = .returned (.tuple #[.int .u64 (Num.tr (Num.cmpV i 64 a b)), .int .i64 0]) ∧ ∃ nq, w' = w.drewN nq := by
  have HC := Lib.hid (fun w => compare_any i 64 a b w hi (.inr ⟨rfl, by omega, by omega⟩) (.inr ⟨rfl, by omega, by omega⟩))
  rw [← ho] at HC
  have hq : decide (69 ≤ o ∧ o ≤ 79) = true := by simp; omega
  have HI := Lib.hid (fun w => isAsk_any o w)
  rw [hq] at HI
  clear hq ha hb ho
  go_enter Tryd.func19, Tryd.ntmps19
  go_wp2_with (first | (go_at_call 25; with_reducible refine (HI.out _).mono ?_; rintro e w' ⟨rfl, rfl⟩) | (go_at_call 33; refine (HC.out _).mono ?_; rintro e w' ⟨rfl, rfl⟩) | (go_at_call 28; with_reducible refine (truth_any _ _).mono ?_; rintro e w' ⟨rfl, rfl⟩))
  go_ret2
  exact ⟨rfl, 0, rfl⟩

set_option maxHeartbeats 4000000 in
set_option maxRecDepth 100000 in
theorem two_div64 (o : Int) (i : Nat) (a b : Int) (w : World) (ho : o = (i : Int) + 109) (hi : i < 4) (ha : 0 ≤ a ∧ a < 18446744073709551616) (hb : 0 ≤ b ∧ b < 18446744073709551616) :
    Calls Tryd.prog 19 #[.int .i64 o, .int .i64 64, .int .u64 a, .int .u64 b] w fun e w' => e = .returned (.tuple #[.int .u64 (Num.divV i 64 a b).1, .int .i64 (Num.divV i 64 a b).2]) ∧ ∃ nq, w' = w.drewN nq := by
  have HC := Lib.hid (fun w => divide64 i a b w hi ha hb)
  rw [← ho] at HC
  have hq : decide (69 ≤ o ∧ o ≤ 79) = false := by simp; omega
  have HI := Lib.hid (fun w => isAsk_any o w)
  rw [hq] at HI
  have h1 : 109 ≤ o := by omega
  have h2 : o ≤ 112 := by omega
  clear hq ha hb ho
  obtain ⟨x, hx⟩ : ∃ x, x = (Num.divV i 64 a b).1 := ⟨_, rfl⟩
  obtain ⟨y, hy⟩ : ∃ y, y = (Num.divV i 64 a b).2 := ⟨_, rfl⟩
  rw [← hx, ← hy] at HC ⊢
  clear hx hy
  go_enter Tryd.func19, Tryd.ntmps19
  go_wp2_with (first | (go_at_call 25; with_reducible refine (HI.out _).mono ?_; rintro e w' ⟨rfl, rfl⟩) | (go_at_call 34; refine (HC.out _).mono ?_; rintro e w' ⟨rfl, rfl⟩))
  go_ret2
  exact ⟨rfl, 0, rfl⟩

set_option maxHeartbeats 4000000 in
set_option maxRecDepth 100000 in
theorem two_shf64 (o : Int) (i : Nat) (a b : Int) (w : World) (ho : o = (i : Int) + 116) (hi : i < 5) (ha : 0 ≤ a ∧ a < 18446744073709551616) (hb : 0 ≤ b ∧ b < 18446744073709551616) :
    Calls Tryd.prog 19 #[.int .i64 o, .int .i64 64, .int .u64 a, .int .u64 b] w fun e w' => e = .returned (.tuple #[.int .u64 (Num.shfV i 64 a (b % 64).toNat), .int .i64 0]) ∧ ∃ nq, w' = w.drewN nq := by
  have HC := Lib.hid (fun w => shift64 i a (b % 64).toNat w hi ha (by omega))
  rw [← ho] at HC
  have hq : decide (69 ≤ o ∧ o ≤ 79) = false := by simp; omega
  have HI := Lib.hid (fun w => isAsk_any o w)
  rw [hq] at HI
  have h1 : 116 ≤ o := by omega
  have hk : (((b % 64).toNat : Nat) : Int) = b % 64 := by omega
  rw [hk] at HC
  obtain ⟨x, hx⟩ : ∃ x, x = (Num.shfV i 64 a (b % 64).toNat) := ⟨_, rfl⟩
  rw [← hx] at HC ⊢
  clear hx hk
  obtain ⟨b0, b1⟩ := hb
  clear hq ha ho
  go_enter Tryd.func19, Tryd.ntmps19
  go_wp2_with (first | (go_at_call 25; with_reducible refine (HI.out _).mono ?_; rintro e w' ⟨rfl, rfl⟩) | (go_at_call 35; refine (HC.out _).mono ?_; rintro e w' ⟨rfl, nq, rfl⟩))
  go_ret2
  exact ⟨rfl, _, rfl⟩

set_option maxHeartbeats 4000000 in
set_option maxRecDepth 100000 in
theorem two_cmb64 (o : Int) (i : Nat) (a b : Int) (w : World) (ho : o = (i : Int) + 106) (hi : i < 3 ∨ (7 ≤ i ∧ i < 10)) (ha : 0 ≤ a ∧ a < 18446744073709551616) (hb : 0 ≤ b ∧ b < 18446744073709551616) :
    Calls Tryd.prog 19 #[.int .i64 o, .int .i64 64, .int .u64 a, .int .u64 b] w fun e w' => e = .returned (.tuple #[.int .u64 (Num.cmbV i 64 a b), .int .i64 0]) ∧ ∃ nq, w' = w.drewN nq := by
  have HC : Hid (∀ w, Calls Tryd.prog 36 #[.int .i64 o, .int .u64 a, .int .u64 b] w fun e w' => e = .returned (.int .u64 (Num.cmbV i 64 a b)) ∧ w = w') := Lib.hid (fun w => by
    rw [ho]
    rcases hi with hi | hi
    · exact combine_lin i a b w hi
    · exact combine_bit i a b w hi (by omega) (by omega))
  have hr := Num.cmb_range i a b (by omega) (by omega)
  have hc := Num.cmb_cut64 i a b hi ha hb
  have hq : decide (69 ≤ o ∧ o ≤ 79) = false := by simp; omega
  have HI := Lib.hid (fun w => isAsk_any o w)
  rw [hq] at HI
  obtain ⟨x, hx⟩ : ∃ x, x = (Num.cmbV i 64 a b) := ⟨_, rfl⟩
  rw [← hx] at HC hr hc
  have hc' : Num.cmbV i 64 a b = x := hx.symm
  rw [hc']
  clear hq ha hb hc hx hc'
  have HX := Lib.hid (fun w => cut64 x w hr.1 hr.2)
  have h1 : ¬ o ≥ 116 := by omega
  rcases hi with hi | hi
  · have h2 : ¬ o ≥ 109 := by omega
    clear ho hr hi
    go_enter Tryd.func19, Tryd.ntmps19
    go_wp2_with (first | (go_at_call 25; with_reducible refine (HI.out _).mono ?_; rintro e w' ⟨rfl, rfl⟩) | (go_at_call 36; refine (HC.out _).mono ?_; rintro e w' ⟨rfl, rfl⟩) | (go_at_call 27; refine (HX.out _).mono ?_; rintro e w' ⟨rfl, rfl⟩))
    go_ret2
    exact ⟨rfl, 0, rfl⟩
  · have h2 : o ≥ 109 := by omega
    have h3 : ¬ o ≤ 112 := by omega
    clear ho hr hi
    go_enter Tryd.func19, Tryd.ntmps19
    go_wp2_with (first | (go_at_call 25; with_reducible refine (HI.out _).mono ?_; rintro e w' ⟨rfl, rfl⟩) | (go_at_call 36; refine (HC.out _).mono ?_; rintro e w' ⟨rfl, rfl⟩) | (go_at_call 27; refine (HX.out _).mono ?_; rintro e w' ⟨rfl, rfl⟩))
    go_ret2
    exact ⟨rfl, 0, rfl⟩

theorem ofTwo64 (o : Int) (i : Nat) (a b : Int) (w : World) (ho : o = (i : Int) + 106) (hi : i < 15) (ha : 0 ≤ a ∧ a < 18446744073709551616) (hb : 0 ≤ b ∧ b < 18446744073709551616) :
    Calls Tryd.prog 19 #[.int .i64 o, .int .i64 64, .int .u64 a, .int .u64 b] w fun e w' => e = .returned (.tuple #[.int .u64 (Num.twoV i 64 a b).1, .int .i64 (Num.twoV i 64 a b).2]) ∧ ∃ nq, w' = w.drewN nq := by
  by_cases h1 : 3 ≤ i ∧ i ≤ 6
  · have e : Num.twoV i 64 a b = Num.divV (i - 3) 64 a b := by simp only [Num.twoV, if_pos h1]
    rw [e]
    exact two_div64 o (i - 3) a b w (by omega) (by omega) ha hb
  · by_cases h2 : 10 ≤ i
    · have e : Num.twoV i 64 a b = (Num.shfV (i - 10) 64 a (b % 64).toNat, 0) := by simp only [Num.twoV, if_neg h1, if_pos h2]; rfl
      rw [e]
      exact two_shf64 o (i - 10) a b w (by omega) (by omega) ha hb
    · have e : Num.twoV i 64 a b = (Num.cmbV i 64 a b, 0) := by simp only [Num.twoV, if_neg h1, if_neg h2]
      rw [e]
      exact two_cmb64 o i a b w ho (by omega) ha hb

end Go.Proofs.YtdenmbigdklhkaaDoor
