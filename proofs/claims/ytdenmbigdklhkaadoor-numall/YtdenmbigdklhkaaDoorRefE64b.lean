/- The contract of grommetref03.shift. -/
import Derived.Test.YtdenmbigdklhkaaDoorRefE32a
import Derived.Test.YtdenmbigdklhkaaDoorRefMath2
namespace Go.Proofs.YtdenmbigdklhkaaDoor
open Go.RowKit


set_option maxHeartbeats 8000000 in
set_option maxRecDepth 100000 in
theorem rsh3_64 (a R : Int) (k : Nat) (w : World) (ha : 0 ≤ a ∧ a < 18446744073709551616) (hk : k < 64) (hR : 0 ≤ R ∧ R < 18446744073709551616)
    (hbit : ∀ j : Nat, j < 64 → R / 2 ^ j % 2 = if j < k then a / 2 ^ (64 - k + j) % 2 else a / 2 ^ (j - k) % 2) :
    Calls Tryd.prog 42 #[.int .i64 3, .int .u64 a, .int .i64 k, .int .i64 64] w fun e w' => e = .returned (.int .u64 R) ∧ w = w' := by
  have HB := Lib.hid (fun (k : Nat) w (h : k < 64) => rbit_any a k w ha.1 (by omega) h)
  have HS := Lib.hid (fun (x : Int) (j : Nat) (hj : j < 64) (hx : x = R / 2 ^ j % 2) => Num.or_step_i R x j hR.1 (by omega) hj hx)
  have HE := Lib.hid (show R % 2 ^ 64 = R from Int.emod_eq_of_lt hR.1 hR.2)
  have HR := Lib.hid (fun j => mod_range R j hR.1)
  have H0 := Lib.hid (show R % 2 ^ 0 = 0 by simp [Int.emod_one])
  have HT := Lib.hid hbit
  have HQ := Lib.hid hR
  clear hbit ha hR
  go_enter Tryd.func42, Tryd.ntmps42
  go_wp2
  go_loop [9, 10] (fun c i => ∃ j : Nat, j ≤ 64 ∧ i = .int .i64 j ∧ c = .int .u64 (R % 2 ^ j)) (fun _ i => 64 - (intOf i).toNat)
  case atStart => exact ⟨0, Nat.zero_le _, rfl, by rw [H0.out]⟩
  case round =>
    obtain ⟨j, hj, rfl, rfl⟩ := hrel
    by_cases hlt : j < 64
    · have hr := HR.out j
      have hs := fun x hx => HS.out x j (by omega) hx
      have ht := HT.out j hlt
      have hq := HQ.out
      obtain ⟨o, ho⟩ : ∃ o, o = R % 2 ^ j := ⟨_, rfl⟩
      rw [← ho] at hs hr ⊢
      have o0 : 0 ≤ o := hr.1
      have o1 : o < 18446744073709551616 := by omega
      clear hr hq
      by_cases hc : j < k
      · rw [if_pos hc] at ht
        have HX := Lib.hid (fun w => HB.out (64 - k + j) w (by omega))
        have hk2 : ((64 - k + j : Nat) : Int) = ((j : Int) - k) % 64 := by omega
        rw [hk2] at HX
        obtain ⟨x, hx⟩ : ∃ x, x = a / 2 ^ (64 - k + j) % 2 := ⟨_, rfl⟩
        have hx01 := bit01' a (64 - k + j)
        rw [← hx] at HX ht hx01
        have Hs := Lib.hid (hs x ht.symm)
        obtain ⟨x0, x1⟩ := hx01
        clear hs ht hx hk2 ho
        go_wp2_with (go_at_call 37; refine (HX.out _).mono ?_; rintro e w' ⟨rfl, rfl⟩)
        go_round
        case rel => exact ⟨j + 1, by omega, by go_num, by rw [← Hs.out]⟩
        case measure => simp [intOf]; omega
      · rw [if_neg hc] at ht
        have HX := Lib.hid (fun w => HB.out (j - k) w (by omega))
        have hk2 : ((j - k : Nat) : Int) = ((j : Int) - k) % 64 := by omega
        rw [hk2] at HX
        obtain ⟨x, hx⟩ : ∃ x, x = a / 2 ^ (j - k) % 2 := ⟨_, rfl⟩
        have hx01 := bit01' a (j - k)
        rw [← hx] at HX ht hx01
        have Hs := Lib.hid (hs x ht.symm)
        obtain ⟨x0, x1⟩ := hx01
        clear hs ht hx hk2 ho
        go_wp2_with (go_at_call 37; refine (HX.out _).mono ?_; rintro e w' ⟨rfl, rfl⟩)
        go_round
        case rel => exact ⟨j + 1, by omega, by go_num, by rw [← Hs.out]⟩
        case measure => simp [intOf]; omega
    · have hj' : j = 64 := by omega
      subst hj'
      rw [HE.out]
      go_wp2
      go_ret
      exact ⟨rfl, rfl⟩

set_option maxHeartbeats 8000000 in
set_option maxRecDepth 100000 in
theorem rsh4_64 (a R : Int) (k : Nat) (w : World) (ha : 0 ≤ a ∧ a < 18446744073709551616) (hk : k < 64) (hR : 0 ≤ R ∧ R < 18446744073709551616)
    (hbit : ∀ j : Nat, j < 64 → R / 2 ^ j % 2 = if j + k < 64 then a / 2 ^ (j + k) % 2 else a / 2 ^ (j + k - 64) % 2) :
    Calls Tryd.prog 42 #[.int .i64 4, .int .u64 a, .int .i64 k, .int .i64 64] w fun e w' => e = .returned (.int .u64 R) ∧ w = w' := by
  have HB := Lib.hid (fun (k : Nat) w (h : k < 64) => rbit_any a k w ha.1 (by omega) h)
  have HS := Lib.hid (fun (x : Int) (j : Nat) (hj : j < 64) (hx : x = R / 2 ^ j % 2) => Num.or_step_i R x j hR.1 (by omega) hj hx)
  have HE := Lib.hid (show R % 2 ^ 64 = R from Int.emod_eq_of_lt hR.1 hR.2)
  have HR := Lib.hid (fun j => mod_range R j hR.1)
  have H0 := Lib.hid (show R % 2 ^ 0 = 0 by simp [Int.emod_one])
  have HT := Lib.hid hbit
  have HQ := Lib.hid hR
  clear hbit ha hR
  go_enter Tryd.func42, Tryd.ntmps42
  go_wp2
  go_loop [9, 10] (fun c i => ∃ j : Nat, j ≤ 64 ∧ i = .int .i64 j ∧ c = .int .u64 (R % 2 ^ j)) (fun _ i => 64 - (intOf i).toNat)
  case atStart => exact ⟨0, Nat.zero_le _, rfl, by rw [H0.out]⟩
  case round =>
    obtain ⟨j, hj, rfl, rfl⟩ := hrel
    by_cases hlt : j < 64
    · have hr := HR.out j
      have hs := fun x hx => HS.out x j (by omega) hx
      have ht := HT.out j hlt
      have hq := HQ.out
      obtain ⟨o, ho⟩ : ∃ o, o = R % 2 ^ j := ⟨_, rfl⟩
      rw [← ho] at hs hr ⊢
      have o0 : 0 ≤ o := hr.1
      have o1 : o < 18446744073709551616 := by omega
      clear hr hq
      by_cases hc : j + k < 64
      · rw [if_pos hc] at ht
        have HX := Lib.hid (fun w => HB.out (j + k) w (by omega))
        have hk2 : ((j + k : Nat) : Int) = ((j : Int) + k) % 64 := by omega
        rw [hk2] at HX
        obtain ⟨x, hx⟩ : ∃ x, x = a / 2 ^ (j + k) % 2 := ⟨_, rfl⟩
        have hx01 := bit01' a (j + k)
        rw [← hx] at HX ht hx01
        have Hs := Lib.hid (hs x ht.symm)
        obtain ⟨x0, x1⟩ := hx01
        clear hs ht hx hk2 ho
        go_wp2_with (go_at_call 37; refine (HX.out _).mono ?_; rintro e w' ⟨rfl, rfl⟩)
        go_round
        case rel => exact ⟨j + 1, by omega, by go_num, by rw [← Hs.out]⟩
        case measure => simp [intOf]; omega
      · rw [if_neg hc] at ht
        have HX := Lib.hid (fun w => HB.out (j + k - 64) w (by omega))
        have hk2 : ((j + k - 64 : Nat) : Int) = ((j : Int) + k) % 64 := by omega
        rw [hk2] at HX
        obtain ⟨x, hx⟩ : ∃ x, x = a / 2 ^ (j + k - 64) % 2 := ⟨_, rfl⟩
        have hx01 := bit01' a (j + k - 64)
        rw [← hx] at HX ht hx01
        have Hs := Lib.hid (hs x ht.symm)
        obtain ⟨x0, x1⟩ := hx01
        clear hs ht hx hk2 ho
        go_wp2_with (go_at_call 37; refine (HX.out _).mono ?_; rintro e w' ⟨rfl, rfl⟩)
        go_round
        case rel => exact ⟨j + 1, by omega, by go_num, by rw [← Hs.out]⟩
        case measure => simp [intOf]; omega
    · have hj' : j = 64 := by omega
      subst hj'
      rw [HE.out]
      go_wp2
      go_ret
      exact ⟨rfl, rfl⟩

end Go.Proofs.YtdenmbigdklhkaaDoor
