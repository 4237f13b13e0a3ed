/- The contract of grommetref03.count. -/
import Derived.Test.YtdenmbigdklhkaaDoorRefB
import Derived.Test.YtdenmbigdklhkaaDoorRefMath
namespace Go.Proofs.YtdenmbigdklhkaaDoor
open Go.RowKit

theorem bit01 (a : Int) (k : Nat) : a / 2 ^ k % 2 = 0 ∨ a / 2 ^ k % 2 = 1 := by omega

set_option maxHeartbeats 4000000 in
set_option maxRecDepth 100000 in
theorem rcount2_32 (a : Int) (w : World) (ha : 0 ≤ a ∧ a < 4294967296) :
    Calls Tryd.prog 23 #[.int .i64 2, .int .u64 a, .int .i64 32] w fun e w' => e = .returned (.int .u64 (Num.ones 32 a.toNat)) ∧ w = w' := by
  have HB := Lib.hid (fun (k : Nat) w (h : k < 64) => rbit_any a k w ha.1 (by omega) h)
  obtain ⟨x, rfl⟩ := Int.eq_ofNat_of_zero_le ha.1
  have HO := Lib.hid (fun k => show (Num.ones (k + 1) x : Int) = Num.ones k x + (x : Int) / 2 ^ k % 2 by
    show ((Num.ones k x + x / 2 ^ k % 2 : Nat) : Int) = _
    simp)
  have HL := Lib.hid (fun k => Num.ones_le k x)
  rw [Int.toNat_natCast]
  go_enter Tryd.func23, Tryd.ntmps23
  go_wp2
  go_loop [7, 8] (fun c k => ∃ j : Nat, j ≤ 32 ∧ k = .int .i64 j ∧ c = .int .u64 (Num.ones j x)) (fun _ k => 32 - (intOf k).toNat)
  case atStart => exact ⟨0, Nat.zero_le _, rfl, rfl⟩
  case round =>
    obtain ⟨j, hj, rfl, rfl⟩ := hrel
    by_cases hlt : j < 32
    · have hl := HL.out j
      have hn := HO.out j
      obtain ⟨o, ho⟩ : ∃ o, o = Num.ones j x := ⟨_, rfl⟩
      have HX := Lib.hid (fun w => HB.out j w (by omega))
      rw [← ho] at hl hn ⊢
      rcases bit01 (x : Int) j with h | h
      · rw [h] at HX hn
        have Hn := Lib.hid (show (o : Int) = (Num.ones (j + 1) x : Int) by omega)
        clear hn h ho
        go_wp2_with (go_at_call 37; refine (HX.out _).mono ?_; rintro e w' ⟨rfl, rfl⟩)
        go_round
        case rel => exact ⟨j + 1, by omega, by go_num, by rw [Hn.out]⟩
        case measure => simp [intOf]; omega
      · rw [h] at HX hn
        have Hn := Lib.hid (show (o : Int) + 1 = (Num.ones (j + 1) x : Int) by omega)
        clear hn h ho
        go_wp2_with (go_at_call 37; refine (HX.out _).mono ?_; rintro e w' ⟨rfl, rfl⟩)
        go_round
        case rel => exact ⟨j + 1, by omega, by go_num, by rw [← Hn.out]⟩
        case measure => simp [intOf]; omega
    · have hj' : j = 32 := by omega
      subst hj'
      go_wp2
      go_ret
      exact ⟨rfl, rfl⟩

set_option maxHeartbeats 4000000 in
set_option maxRecDepth 100000 in
theorem rcount1_32 (a : Int) (w : World) (ha : 0 ≤ a ∧ a < 4294967296) :
    Calls Tryd.prog 23 #[.int .i64 1, .int .u64 a, .int .i64 32] w fun e w' => e = .returned (.int .u64 (min (Lib.ctz 64 a.toNat : Int) 32)) ∧ w = w' := by
  have HB := Lib.hid (fun (k : Nat) w (h : k < 64) => rbit_any a k w ha.1 (by omega) h)
  obtain ⟨x, rfl⟩ := Int.eq_ofNat_of_zero_le ha.1
  rw [Int.toNat_natCast]
  have HF : Hid (∀ j : Nat, j < 32 → x % 2 ^ j = 0 → (x : Int) / 2 ^ j % 2 = 1 → min (Lib.ctz 64 x : Int) 32 = j) := Lib.hid (fun j hj h1 h2 => by
    have h2' : x / 2 ^ j % 2 = 1 := by
      have : (x : Int) / 2 ^ j % 2 = ((x / 2 ^ j % 2 : Nat) : Int) := by simp
      omega
    rw [Num.ctz_of j x (by omega) h1 h2']
    omega)
  have HN : Hid (∀ j : Nat, x % 2 ^ j = 0 → (x : Int) / 2 ^ j % 2 = 0 → x % 2 ^ (j + 1) = 0) := Lib.hid (fun j h1 h2 => by
    have h2' : x / 2 ^ j % 2 = 0 := by
      have : (x : Int) / 2 ^ j % 2 = ((x / 2 ^ j % 2 : Nat) : Int) := by simp
      omega
    rw [Num.mod_next, h1, h2']
    simp)
  have HE : Hid (x % 2 ^ 32 = 0 → min (Lib.ctz 64 x : Int) 32 = 32) := Lib.hid (fun h => by
    have : x = 0 := by omega
    subst this
    have : Lib.ctz 64 0 = 64 := by decide
    rw [this]
    decide)
  go_enter Tryd.func23, Tryd.ntmps23
  go_wp2
  go_loop [7, 8] (fun c k => ∃ j : Nat, j ≤ 32 ∧ k = .int .i64 j ∧ c = .int .u64 j ∧ Hid (x % 2 ^ j = 0)) (fun _ k => 32 - (intOf k).toNat)
  case atStart => exact ⟨0, Nat.zero_le _, rfl, rfl, Lib.hid (by simp [Nat.mod_one])⟩
  case round =>
    obtain ⟨j, hj, rfl, rfl, HJ⟩ := hrel
    by_cases hlt : j < 32
    · have HX := Lib.hid (fun w => HB.out j w (by omega))
      rcases bit01 (x : Int) j with h | h
      · rw [h] at HX
        have HJ2 := Lib.hid (HN.out j HJ.out h)
        clear h
        go_wp2_with (go_at_call 37; refine (HX.out _).mono ?_; rintro e w' ⟨rfl, rfl⟩)
        go_round
        case rel => exact ⟨j + 1, by omega, by go_num, by go_num, HJ2⟩
        case measure => simp [intOf]; omega
      · rw [h] at HX
        have Hfin := Lib.hid (HF.out j hlt HJ.out h)
        clear h
        go_wp2_with (go_at_call 37; refine (HX.out _).mono ?_; rintro e w' ⟨rfl, rfl⟩)
        go_ret
        exact ⟨ret_int Hfin.out.symm, rfl⟩
    · have hj' : j = 32 := by omega
      subst hj'
      have Hfin := Lib.hid (HE.out HJ.out)
      go_wp2
      go_ret
      exact ⟨ret_int Hfin.out.symm, rfl⟩

set_option maxHeartbeats 4000000 in
set_option maxRecDepth 100000 in
theorem rcount0_32 (a : Int) (w : World) (ha : 0 ≤ a ∧ a < 4294967296) :
    Calls Tryd.prog 23 #[.int .i64 0, .int .u64 a, .int .i64 32] w fun e w' => e = .returned (.int .u64 (32 - (Lib.bitLen a.toNat : Int))) ∧ w = w' := by
  have HB := Lib.hid (fun (k : Nat) w (h : k < 64) => rbit_any a k w ha.1 (by omega) h)
  obtain ⟨x, rfl⟩ := Int.eq_ofNat_of_zero_le ha.1
  rw [Int.toNat_natCast]
  have hx : x < 2 ^ 32 := by omega
  have HF : Hid (∀ j : Nat, j < 32 → x < 2 ^ (32 - j) → (x : Int) / 2 ^ (32 - 1 - j) % 2 = 1 → (32 : Int) - Lib.bitLen x = j) := Lib.hid (fun j hj h1 h2 => by
    have h2' : x / 2 ^ (32 - 1 - j) % 2 = 1 := by
      have : (x : Int) / 2 ^ (32 - 1 - j) % 2 = ((x / 2 ^ (32 - 1 - j) % 2 : Nat) : Int) := by simp
      omega
    rw [Num.bitLen_of (32 - 1 - j) x (by omega) (by rw [show 32 - 1 - j + 1 = 32 - j by omega]; exact h1) h2']
    omega)
  have HN : Hid (∀ j : Nat, j < 32 → x < 2 ^ (32 - j) → (x : Int) / 2 ^ (32 - 1 - j) % 2 = 0 → x < 2 ^ (32 - (j + 1))) := Lib.hid (fun j hj h1 h2 => by
    have h2' : x / 2 ^ (32 - 1 - j) % 2 = 0 := by
      have : (x : Int) / 2 ^ (32 - 1 - j) % 2 = ((x / 2 ^ (32 - 1 - j) % 2 : Nat) : Int) := by simp
      omega
    have := Num.half (32 - 1 - j) x (by rw [show 32 - 1 - j + 1 = 32 - j by omega]; exact h1) h2'
    rw [show 32 - (j + 1) = 32 - 1 - j by omega]
    exact this)
  have HE : Hid (x < 2 ^ (32 - 32) → (32 : Int) - Lib.bitLen x = 32) := Lib.hid (fun h => by
    have : x = 0 := by simpa using h
    subst this
    rw [Num.bitLen_zero]
    decide)
  have H0 := Lib.hid hx
  clear hx
  go_enter Tryd.func23, Tryd.ntmps23
  go_wp2
  go_loop [7, 8] (fun c k => ∃ j : Nat, j ≤ 32 ∧ k = .int .i64 j ∧ c = .int .u64 j ∧ Hid (x < 2 ^ (32 - j))) (fun _ k => 32 - (intOf k).toNat)
  case atStart => exact ⟨0, Nat.zero_le _, rfl, rfl, H0⟩
  case round =>
    obtain ⟨j, hj, rfl, rfl, HJ⟩ := hrel
    by_cases hlt : j < 32
    · have HX := Lib.hid (fun w => HB.out (32 - 1 - j) w (by omega))
      have hk : ((32 - 1 - j : Nat) : Int) = 31 - j := by omega
      rw [hk] at HX
      clear hk
      rcases bit01 (x : Int) (32 - 1 - j) with h | h
      · rw [h] at HX
        have HJ2 := Lib.hid (HN.out j hlt HJ.out h)
        clear h
        go_wp2_with (go_at_call 37; refine (HX.out _).mono ?_; rintro e w' ⟨rfl, rfl⟩)
        go_round
        case rel => exact ⟨j + 1, by omega, by go_num, by go_num, HJ2⟩
        case measure => simp [intOf]; omega
      · rw [h] at HX
        have Hfin := Lib.hid (HF.out j hlt HJ.out h)
        clear h
        go_wp2_with (go_at_call 37; refine (HX.out _).mono ?_; rintro e w' ⟨rfl, rfl⟩)
        go_ret
        exact ⟨ret_int Hfin.out.symm, rfl⟩
    · have hj' : j = 32 := by omega
      subst hj'
      have Hfin := Lib.hid (HE.out HJ.out)
      go_wp2
      go_ret
      exact ⟨ret_int Hfin.out.symm, rfl⟩

theorem rcount32 (o : Int) (i : Nat) (a : Int) (w : World) (ho : o = i) (hi : i < 3) (ha : 0 ≤ a ∧ a < 4294967296) :
    Calls Tryd.prog 23 #[.int .i64 o, .int .u64 a, .int .i64 32] w fun e w' => e = .returned (.int .u64 (Num.cntV i 32 a)) ∧ w = w' := by
  have hl : i = 0 ∨ i = 1 ∨ i = 2 := by omega
  subst ho
  rcases hl with rfl | rfl | rfl
  · exact rcount0_32 a w ha
  · exact rcount1_32 a w ha
  · exact rcount2_32 a w ha

set_option maxHeartbeats 4000000 in
set_option maxRecDepth 100000 in
theorem rcount2_64 (a : Int) (w : World) (ha : 0 ≤ a ∧ a < 18446744073709551616) :
    Calls Tryd.prog 23 #[.int .i64 2, .int .u64 a, .int .i64 64] w fun e w' => e = .returned (.int .u64 (Num.ones 64 a.toNat)) ∧ w = w' := by
  have HB := Lib.hid (fun (k : Nat) w (h : k < 64) => rbit_any a k w ha.1 (by omega) h)
  obtain ⟨x, rfl⟩ := Int.eq_ofNat_of_zero_le ha.1
  have HO := Lib.hid (fun k => show (Num.ones (k + 1) x : Int) = Num.ones k x + (x : Int) / 2 ^ k % 2 by
    show ((Num.ones k x + x / 2 ^ k % 2 : Nat) : Int) = _
    simp)
  have HL := Lib.hid (fun k => Num.ones_le k x)
  rw [Int.toNat_natCast]
  go_enter Tryd.func23, Tryd.ntmps23
  go_wp2
  go_loop [7, 8] (fun c k => ∃ j : Nat, j ≤ 64 ∧ k = .int .i64 j ∧ c = .int .u64 (Num.ones j x)) (fun _ k => 64 - (intOf k).toNat)
  case atStart => exact ⟨0, Nat.zero_le _, rfl, rfl⟩
  case round =>
    obtain ⟨j, hj, rfl, rfl⟩ := hrel
    by_cases hlt : j < 64
    · have hl := HL.out j
      have hn := HO.out j
      obtain ⟨o, ho⟩ : ∃ o, o = Num.ones j x := ⟨_, rfl⟩
      have HX := Lib.hid (fun w => HB.out j w (by omega))
      rw [← ho] at hl hn ⊢
      rcases bit01 (x : Int) j with h | h
      · rw [h] at HX hn
        have Hn := Lib.hid (show (o : Int) = (Num.ones (j + 1) x : Int) by omega)
        clear hn h ho
        go_wp2_with (go_at_call 37; refine (HX.out _).mono ?_; rintro e w' ⟨rfl, rfl⟩)
        go_round
        case rel => exact ⟨j + 1, by omega, by go_num, by rw [Hn.out]⟩
        case measure => simp [intOf]; omega
      · rw [h] at HX hn
        have Hn := Lib.hid (show (o : Int) + 1 = (Num.ones (j + 1) x : Int) by omega)
        clear hn h ho
        go_wp2_with (go_at_call 37; refine (HX.out _).mono ?_; rintro e w' ⟨rfl, rfl⟩)
        go_round
        case rel => exact ⟨j + 1, by omega, by go_num, by rw [← Hn.out]⟩
        case measure => simp [intOf]; omega
    · have hj' : j = 64 := by omega
      subst hj'
      go_wp2
      go_ret
      exact ⟨rfl, rfl⟩

set_option maxHeartbeats 4000000 in
set_option maxRecDepth 100000 in
theorem rcount1_64 (a : Int) (w : World) (ha : 0 ≤ a ∧ a < 18446744073709551616) :
    Calls Tryd.prog 23 #[.int .i64 1, .int .u64 a, .int .i64 64] w fun e w' => e = .returned (.int .u64 (min (Lib.ctz 64 a.toNat : Int) 64)) ∧ w = w' := by
  have HB := Lib.hid (fun (k : Nat) w (h : k < 64) => rbit_any a k w ha.1 (by omega) h)
  obtain ⟨x, rfl⟩ := Int.eq_ofNat_of_zero_le ha.1
  rw [Int.toNat_natCast]
  have HF : Hid (∀ j : Nat, j < 64 → x % 2 ^ j = 0 → (x : Int) / 2 ^ j % 2 = 1 → min (Lib.ctz 64 x : Int) 64 = j) := Lib.hid (fun j hj h1 h2 => by
    have h2' : x / 2 ^ j % 2 = 1 := by
      have : (x : Int) / 2 ^ j % 2 = ((x / 2 ^ j % 2 : Nat) : Int) := by simp
      omega
    rw [Num.ctz_of j x (by omega) h1 h2']
    omega)
  have HN : Hid (∀ j : Nat, x % 2 ^ j = 0 → (x : Int) / 2 ^ j % 2 = 0 → x % 2 ^ (j + 1) = 0) := Lib.hid (fun j h1 h2 => by
    have h2' : x / 2 ^ j % 2 = 0 := by
      have : (x : Int) / 2 ^ j % 2 = ((x / 2 ^ j % 2 : Nat) : Int) := by simp
      omega
    rw [Num.mod_next, h1, h2']
    simp)
  have HE : Hid (x % 2 ^ 64 = 0 → min (Lib.ctz 64 x : Int) 64 = 64) := Lib.hid (fun h => by
    have : x = 0 := by omega
    subst this
    have : Lib.ctz 64 0 = 64 := by decide
    rw [this]
    decide)
  go_enter Tryd.func23, Tryd.ntmps23
  go_wp2
  go_loop [7, 8] (fun c k => ∃ j : Nat, j ≤ 64 ∧ k = .int .i64 j ∧ c = .int .u64 j ∧ Hid (x % 2 ^ j = 0)) (fun _ k => 64 - (intOf k).toNat)
  case atStart => exact ⟨0, Nat.zero_le _, rfl, rfl, Lib.hid (by simp [Nat.mod_one])⟩
  case round =>
    obtain ⟨j, hj, rfl, rfl, HJ⟩ := hrel
    by_cases hlt : j < 64
    · have HX := Lib.hid (fun w => HB.out j w (by omega))
      rcases bit01 (x : Int) j with h | h
      · rw [h] at HX
        have HJ2 := Lib.hid (HN.out j HJ.out h)
        clear h
        go_wp2_with (go_at_call 37; refine (HX.out _).mono ?_; rintro e w' ⟨rfl, rfl⟩)
        go_round
        case rel => exact ⟨j + 1, by omega, by go_num, by go_num, HJ2⟩
        case measure => simp [intOf]; omega
      · rw [h] at HX
        have Hfin := Lib.hid (HF.out j hlt HJ.out h)
        clear h
        go_wp2_with (go_at_call 37; refine (HX.out _).mono ?_; rintro e w' ⟨rfl, rfl⟩)
        go_ret
        exact ⟨ret_int Hfin.out.symm, rfl⟩
    · have hj' : j = 64 := by omega
      subst hj'
      have Hfin := Lib.hid (HE.out HJ.out)
      go_wp2
      go_ret
      exact ⟨ret_int Hfin.out.symm, rfl⟩

set_option maxHeartbeats 4000000 in
set_option maxRecDepth 100000 in
theorem rcount0_64 (a : Int) (w : World) (ha : 0 ≤ a ∧ a < 18446744073709551616) :
    Calls Tryd.prog 23 #[.int .i64 0, .int .u64 a, .int .i64 64] w fun e w' => e = .returned (.int .u64 (64 - (Lib.bitLen a.toNat : Int))) ∧ w = w' := by
  have HB := Lib.hid (fun (k : Nat) w (h : k < 64) => rbit_any a k w ha.1 (by omega) h)
  obtain ⟨x, rfl⟩ := Int.eq_ofNat_of_zero_le ha.1
  rw [Int.toNat_natCast]
  have hx : x < 2 ^ 64 := by omega
  have HF : Hid (∀ j : Nat, j < 64 → x < 2 ^ (64 - j) → (x : Int) / 2 ^ (64 - 1 - j) % 2 = 1 → (64 : Int) - Lib.bitLen x = j) := Lib.hid (fun j hj h1 h2 => by
    have h2' : x / 2 ^ (64 - 1 - j) % 2 = 1 := by
      have : (x : Int) / 2 ^ (64 - 1 - j) % 2 = ((x / 2 ^ (64 - 1 - j) % 2 : Nat) : Int) := by simp
      omega
    rw [Num.bitLen_of (64 - 1 - j) x (by omega) (by rw [show 64 - 1 - j + 1 = 64 - j by omega]; exact h1) h2']
    omega)
  have HN : Hid (∀ j : Nat, j < 64 → x < 2 ^ (64 - j) → (x : Int) / 2 ^ (64 - 1 - j) % 2 = 0 → x < 2 ^ (64 - (j + 1))) := Lib.hid (fun j hj h1 h2 => by
    have h2' : x / 2 ^ (64 - 1 - j) % 2 = 0 := by
      have : (x : Int) / 2 ^ (64 - 1 - j) % 2 = ((x / 2 ^ (64 - 1 - j) % 2 : Nat) : Int) := by simp
      omega
    have := Num.half (64 - 1 - j) x (by rw [show 64 - 1 - j + 1 = 64 - j by omega]; exact h1) h2'
    rw [show 64 - (j + 1) = 64 - 1 - j by omega]
    exact this)
  have HE : Hid (x < 2 ^ (64 - 64) → (64 : Int) - Lib.bitLen x = 64) := Lib.hid (fun h => by
    have : x = 0 := by simpa using h
    subst this
    rw [Num.bitLen_zero]
    decide)
  have H0 := Lib.hid hx
  clear hx
  go_enter Tryd.func23, Tryd.ntmps23
  go_wp2
  go_loop [7, 8] (fun c k => ∃ j : Nat, j ≤ 64 ∧ k = .int .i64 j ∧ c = .int .u64 j ∧ Hid (x < 2 ^ (64 - j))) (fun _ k => 64 - (intOf k).toNat)
  case atStart => exact ⟨0, Nat.zero_le _, rfl, rfl, H0⟩
  case round =>
    obtain ⟨j, hj, rfl, rfl, HJ⟩ := hrel
    by_cases hlt : j < 64
    · have HX := Lib.hid (fun w => HB.out (64 - 1 - j) w (by omega))
      have hk : ((64 - 1 - j : Nat) : Int) = 63 - j := by omega
      rw [hk] at HX
      clear hk
      rcases bit01 (x : Int) (64 - 1 - j) with h | h
      · rw [h] at HX
        have HJ2 := Lib.hid (HN.out j hlt HJ.out h)
        clear h
        go_wp2_with (go_at_call 37; refine (HX.out _).mono ?_; rintro e w' ⟨rfl, rfl⟩)
        go_round
        case rel => exact ⟨j + 1, by omega, by go_num, by go_num, HJ2⟩
        case measure => simp [intOf]; omega
      · rw [h] at HX
        have Hfin := Lib.hid (HF.out j hlt HJ.out h)
        clear h
        go_wp2_with (go_at_call 37; refine (HX.out _).mono ?_; rintro e w' ⟨rfl, rfl⟩)
        go_ret
        exact ⟨ret_int Hfin.out.symm, rfl⟩
    · have hj' : j = 64 := by omega
      subst hj'
      have Hfin := Lib.hid (HE.out HJ.out)
      go_wp2
      go_ret
      exact ⟨ret_int Hfin.out.symm, rfl⟩

theorem rcount64 (o : Int) (i : Nat) (a : Int) (w : World) (ho : o = i) (hi : i < 3) (ha : 0 ≤ a ∧ a < 18446744073709551616) :
    Calls Tryd.prog 23 #[.int .i64 o, .int .u64 a, .int .i64 64] w fun e w' => e = .returned (.int .u64 (Num.cntV i 64 a)) ∧ w = w' := by
  have hl : i = 0 ∨ i = 1 ∨ i = 2 := by omega
  subst ho
  rcases hl with rfl | rfl | rfl
  · exact rcount0_64 a w ha
  · exact rcount1_64 a w ha
  · exact rcount2_64 a w ha

end Go.Proofs.YtdenmbigdklhkaaDoor
