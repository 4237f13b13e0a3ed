/- The contract of grommetref03.shift. -/
import Derived.Test.YtdenmbigdklhkaaDoorRefB
import Derived.Test.YtdenmbigdklhkaaDoorRefMath2
namespace Go.Proofs.YtdenmbigdklhkaaDoor
open Go.RowKit

theorem mod_range (R : Int) (j : Nat) (h0 : 0 ≤ R) : 0 ≤ R % 2 ^ j ∧ R % 2 ^ j ≤ R := by
  have hp : (0 : Int) < 2 ^ j := Int.pow_pos (by decide)
  obtain ⟨r, rfl⟩ := Int.eq_ofNat_of_zero_le h0
  have e : (r : Int) % 2 ^ j = ((r % 2 ^ j : Nat) : Int) := by simp
  rw [e]
  have := Nat.mod_le r (2 ^ j)
  omega

theorem bit01' (a : Int) (k : Nat) : 0 ≤ a / 2 ^ k % 2 ∧ a / 2 ^ k % 2 ≤ 1 := by omega

set_option maxHeartbeats 8000000 in
set_option maxRecDepth 100000 in
theorem rsh0_32 (a R : Int) (k : Nat) (w : World) (ha : 0 ≤ a ∧ a < 4294967296) (hk : k < 32) (hR : 0 ≤ R ∧ R < 4294967296)
    (hbit : ∀ j : Nat, j < 32 → R / 2 ^ j % 2 = if k ≤ j then a / 2 ^ (j - k) % 2 else 0) :
    Calls Tryd.prog 42 #[.int .i64 0, .int .u64 a, .int .i64 k, .int .i64 32] w fun e w' => e = .returned (.int .u64 R) ∧ w = w' := by
  have HB := Lib.hid (fun (k : Nat) w (h : k < 64) => rbit_any a k w ha.1 (by omega) h)
  have HS := Lib.hid (fun (x : Int) (j : Nat) (hj : j < 64) (hx : x = R / 2 ^ j % 2) => Num.or_step_i R x j hR.1 (by omega) hj hx)
  have HE := Lib.hid (show R % 2 ^ 32 = R from Int.emod_eq_of_lt hR.1 hR.2)
  have HR := Lib.hid (fun j => mod_range R j hR.1)
  have H0 := Lib.hid (show R % 2 ^ 0 = 0 by simp [Int.emod_one])
  have HT := Lib.hid hbit
  have HQ := Lib.hid hR
  clear hbit ha hR
  go_enter Tryd.func42, Tryd.ntmps42
  go_wp2
  go_loop [9, 10] (fun c i => ∃ j : Nat, j ≤ 32 ∧ i = .int .i64 j ∧ c = .int .u64 (R % 2 ^ j)) (fun _ i => 32 - (intOf i).toNat)
  case atStart => exact ⟨0, Nat.zero_le _, rfl, by rw [H0.out]⟩
  case round =>
    obtain ⟨j, hj, rfl, rfl⟩ := hrel
    by_cases hlt : j < 32
    · have hr := HR.out j
      have hs := fun x hx => HS.out x j (by omega) hx
      have ht := HT.out j hlt
      have hq := HQ.out
      obtain ⟨o, ho⟩ : ∃ o, o = R % 2 ^ j := ⟨_, rfl⟩
      rw [← ho] at hs hr ⊢
      have o0 : 0 ≤ o := hr.1
      have o1 : o < 18446744073709551616 := by omega
      clear hr hq
      by_cases hc : k ≤ j
      · rw [if_pos hc] at ht
        have HX := Lib.hid (fun w => HB.out (j - k) w (by omega))
        have hk2 : ((j - k : Nat) : Int) = (j : Int) - k := by omega
        rw [hk2] at HX
        obtain ⟨x, hx⟩ : ∃ x, x = a / 2 ^ (j - k) % 2 := ⟨_, rfl⟩
        have hx01 := bit01' a (j - k)
        rw [← hx] at HX ht hx01
        have Hs := Lib.hid (hs x ht.symm)
        obtain ⟨x0, x1⟩ := hx01
        clear hs ht hx hk2 ho
        go_wp2_with (go_at_call 37; refine (HX.out _).mono ?_; rintro e w' ⟨rfl, rfl⟩)
        go_round
        case rel => exact ⟨j + 1, by omega, by go_num, by rw [← Hs.out]⟩
        case measure => simp [intOf]; omega
      · rw [if_neg hc] at ht
        have Hs := Lib.hid (hs 0 ht.symm)
        clear hs ht ho
        go_wp2
        go_round
        case rel => exact ⟨j + 1, by omega, by go_num, by rw [← Hs.out, Int.zero_mul, show IntKind.u64.wrap 0 = 0 by decide]⟩
        case measure => simp [intOf]; omega
    · have hj' : j = 32 := by omega
      subst hj'
      rw [HE.out]
      go_wp2
      go_ret
      exact ⟨rfl, rfl⟩

set_option maxHeartbeats 8000000 in
set_option maxRecDepth 100000 in
theorem rsh2_32 (a R : Int) (k : Nat) (w : World) (ha : 0 ≤ a ∧ a < 4294967296) (hk : k < 32) (hR : 0 ≤ R ∧ R < 4294967296)
    (hbit : ∀ j : Nat, j < 32 → R / 2 ^ j % 2 = if j + k < 32 then a / 2 ^ (j + k) % 2 else 0) :
    Calls Tryd.prog 42 #[.int .i64 2, .int .u64 a, .int .i64 k, .int .i64 32] w fun e w' => e = .returned (.int .u64 R) ∧ w = w' := by
  have HB := Lib.hid (fun (k : Nat) w (h : k < 64) => rbit_any a k w ha.1 (by omega) h)
  have HS := Lib.hid (fun (x : Int) (j : Nat) (hj : j < 64) (hx : x = R / 2 ^ j % 2) => Num.or_step_i R x j hR.1 (by omega) hj hx)
  have HE := Lib.hid (show R % 2 ^ 32 = R from Int.emod_eq_of_lt hR.1 hR.2)
  have HR := Lib.hid (fun j => mod_range R j hR.1)
  have H0 := Lib.hid (show R % 2 ^ 0 = 0 by simp [Int.emod_one])
  have HT := Lib.hid hbit
  have HQ := Lib.hid hR
  clear hbit ha hR
  go_enter Tryd.func42, Tryd.ntmps42
  go_wp2
  go_loop [9, 10] (fun c i => ∃ j : Nat, j ≤ 32 ∧ i = .int .i64 j ∧ c = .int .u64 (R % 2 ^ j)) (fun _ i => 32 - (intOf i).toNat)
  case atStart => exact ⟨0, Nat.zero_le _, rfl, by rw [H0.out]⟩
  case round =>
    obtain ⟨j, hj, rfl, rfl⟩ := hrel
    by_cases hlt : j < 32
    · have hr := HR.out j
      have hs := fun x hx => HS.out x j (by omega) hx
      have ht := HT.out j hlt
      have hq := HQ.out
      obtain ⟨o, ho⟩ : ∃ o, o = R % 2 ^ j := ⟨_, rfl⟩
      rw [← ho] at hs hr ⊢
      have o0 : 0 ≤ o := hr.1
      have o1 : o < 18446744073709551616 := by omega
      clear hr hq
      by_cases hc : j + k < 32
      · rw [if_pos hc] at ht
        have HX := Lib.hid (fun w => HB.out (j + k) w (by omega))
        have hk2 : ((j + k : Nat) : Int) = (j : Int) + k := by omega
        rw [hk2] at HX
        obtain ⟨x, hx⟩ : ∃ x, x = a / 2 ^ (j + k) % 2 := ⟨_, rfl⟩
        have hx01 := bit01' a (j + k)
        rw [← hx] at HX ht hx01
        have Hs := Lib.hid (hs x ht.symm)
        obtain ⟨x0, x1⟩ := hx01
        clear hs ht hx hk2 ho
        go_wp2_with (go_at_call 37; refine (HX.out _).mono ?_; rintro e w' ⟨rfl, rfl⟩)
        go_round
        case rel => exact ⟨j + 1, by omega, by go_num, by rw [← Hs.out]⟩
        case measure => simp [intOf]; omega
      · rw [if_neg hc] at ht
        have Hs := Lib.hid (hs 0 ht.symm)
        clear hs ht ho
        go_wp2
        go_round
        case rel => exact ⟨j + 1, by omega, by go_num, by rw [← Hs.out, Int.zero_mul, show IntKind.u64.wrap 0 = 0 by decide]⟩
        case measure => simp [intOf]; omega
    · have hj' : j = 32 := by omega
      subst hj'
      rw [HE.out]
      go_wp2
      go_ret
      exact ⟨rfl, rfl⟩

set_option maxHeartbeats 8000000 in
set_option maxRecDepth 100000 in
theorem rsh1_32 (a R : Int) (k : Nat) (w : World) (ha : 0 ≤ a ∧ a < 4294967296) (hk : k < 32) (hR : 0 ≤ R ∧ R < 4294967296)
    (hbit : ∀ j : Nat, j < 32 → R / 2 ^ j % 2 = if j + k < 32 then a / 2 ^ (j + k) % 2 else a / 2 ^ (32 - 1) % 2) :
    Calls Tryd.prog 42 #[.int .i64 1, .int .u64 a, .int .i64 k, .int .i64 32] w fun e w' => e = .returned (.int .u64 R) ∧ w = w' := by
  have HB := Lib.hid (fun (k : Nat) w (h : k < 64) => rbit_any a k w ha.1 (by omega) h)
  have HS := Lib.hid (fun (x : Int) (j : Nat) (hj : j < 64) (hx : x = R / 2 ^ j % 2) => Num.or_step_i R x j hR.1 (by omega) hj hx)
  have HE := Lib.hid (show R % 2 ^ 32 = R from Int.emod_eq_of_lt hR.1 hR.2)
  have HR := Lib.hid (fun j => mod_range R j hR.1)
  have H0 := Lib.hid (show R % 2 ^ 0 = 0 by simp [Int.emod_one])
  have HT := Lib.hid hbit
  have HQ := Lib.hid hR
  clear hbit ha hR
  go_enter Tryd.func42, Tryd.ntmps42
  go_wp2
  go_loop [9, 10] (fun c i => ∃ j : Nat, j ≤ 32 ∧ i = .int .i64 j ∧ c = .int .u64 (R % 2 ^ j)) (fun _ i => 32 - (intOf i).toNat)
  case atStart => exact ⟨0, Nat.zero_le _, rfl, by rw [H0.out]⟩
  case round =>
    obtain ⟨j, hj, rfl, rfl⟩ := hrel
    by_cases hlt : j < 32
    · have hr := HR.out j
      have hs := fun x hx => HS.out x j (by omega) hx
      have ht := HT.out j hlt
      have hq := HQ.out
      obtain ⟨o, ho⟩ : ∃ o, o = R % 2 ^ j := ⟨_, rfl⟩
      rw [← ho] at hs hr ⊢
      have o0 : 0 ≤ o := hr.1
      have o1 : o < 18446744073709551616 := by omega
      clear hr hq
      by_cases hc : j + k < 32
      · rw [if_pos hc] at ht
        have HX := Lib.hid (fun w => HB.out (j + k) w (by omega))
        have hk2 : ((j + k : Nat) : Int) = (j : Int) + k := by omega
        rw [hk2] at HX
        obtain ⟨x, hx⟩ : ∃ x, x = a / 2 ^ (j + k) % 2 := ⟨_, rfl⟩
        have hx01 := bit01' a (j + k)
        rw [← hx] at HX ht hx01
        have Hs := Lib.hid (hs x ht.symm)
        obtain ⟨x0, x1⟩ := hx01
        clear hs ht hx hk2 ho
        go_wp2_with (go_at_call 37; refine (HX.out _).mono ?_; rintro e w' ⟨rfl, rfl⟩)
        go_round
        case rel => exact ⟨j + 1, by omega, by go_num, by rw [← Hs.out]⟩
        case measure => simp [intOf]; omega
      · rw [if_neg hc] at ht
        have HX := Lib.hid (fun w => HB.out (32 - 1) w (by omega))
        have hk2 : ((32 - 1 : Nat) : Int) = 31 := by omega
        rw [hk2] at HX
        obtain ⟨x, hx⟩ : ∃ x, x = a / 2 ^ (32 - 1) % 2 := ⟨_, rfl⟩
        have hx01 := bit01' a (32 - 1)
        rw [← hx] at HX ht hx01
        have Hs := Lib.hid (hs x ht.symm)
        obtain ⟨x0, x1⟩ := hx01
        clear hs ht hx hk2 ho
        go_wp2_with (go_at_call 37; refine (HX.out _).mono ?_; rintro e w' ⟨rfl, rfl⟩)
        go_round
        case rel => exact ⟨j + 1, by omega, by go_num, by rw [← Hs.out]⟩
        case measure => simp [intOf]; omega
    · have hj' : j = 32 := by omega
      subst hj'
      rw [HE.out]
      go_wp2
      go_ret
      exact ⟨rfl, rfl⟩

end Go.Proofs.YtdenmbigdklhkaaDoor
