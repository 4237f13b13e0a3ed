/- grommetlaw03.NumShifts returns true for every input. -/
import Derived.Test.YtdenmbigdklhkaaDoorNumI
import Derived.Test.YtdenmbigdklhkaaDoorNumMath5
namespace Go.Proofs.YtdenmbigdklhkaaDoor
open Go.RowKit

theorem shf_facts32 (a b : Int) (ha : 0 ≤ a ∧ a < 4294967296) (hb : 0 ≤ b ∧ b < 4294967296) :
    ∃ x p u v y s : Int, (0 ≤ x) ∧ Num.ev2 (106 + 10) a b = (x, 0) ∧ (0 ≤ p ∧ p < 4294967296) ∧ IntKind.u64.wrap (2 ^ (b % 32).toNat) = p ∧ Num.ev2 (106 + 2) a p = (x, 0) ∧
      Num.ev2 (106 + 7) a b = (u, 0) ∧ Num.ev2 (106 + 8) a b = (v, 0) ∧ Num.ev2 (106 + 9) a b = (y, 0) ∧ Num.ev2 106 a b = (s, 0) ∧
      (0 ≤ u ∧ u < 4294967296) ∧ (0 ≤ v ∧ v < 4294967296) ∧ Num.ev2 106 u v = (s, 0) ∧ Num.ev2 (106 + 1) v u = (y, 0) := by
  obtain ⟨x, rfl⟩ := Int.eq_ofNat_of_zero_le ha.1
  obtain ⟨y, rfl⟩ := Int.eq_ofNat_of_zero_le hb.1
  have l1 : x &&& y < 2 ^ 32 := Nat.and_lt_two_pow _ (by omega)
  have l2 : x ||| y < 2 ^ 32 := Nat.or_lt_two_pow (by omega) (by omega)
  have l3 : x ^^^ y < 2 ^ 32 := Nat.xor_lt_two_pow (by omega) (by omega)
  have e1 := Num.and_or x y
  have e2 := Num.or_xor x y
  have hk : ((y : Int) % 32).toNat < 32 := by omega
  have hp : (2 : Int) ^ ((y : Int) % 32).toNat < 4294967296 := by
    have := Nat.pow_lt_pow_right (a := 2) (by decide) hk
    have h2 : ((2 ^ ((y : Int) % 32).toNat : Nat) : Int) < ((2 ^ 32 : Nat) : Int) := Int.ofNat_lt.2 this
    simpa using h2
  have hp0 : (0 : Int) < 2 ^ ((y : Int) % 32).toNat := Int.pow_pos (by decide)
  refine ⟨_, 2 ^ ((y : Int) % 32).toNat, ((x &&& y : Nat) : Int), ((x ||| y : Nat) : Int), ((x ^^^ y : Nat) : Int), _, ?_, rfl, ⟨by omega, hp⟩, ?_, rfl, rfl, rfl, rfl, rfl, ⟨by omega, by omega⟩, ⟨by omega, by omega⟩, ?_, ?_⟩
  · exact Int.emod_nonneg _ (by decide)
  · rw [IntKind.wrap_u64]; exact Int.emod_eq_of_lt (by omega) (by omega)
  · show ((((x &&& y : Nat) : Int) + ((x ||| y : Nat) : Int)) % 2 ^ 32, (0 : Int)) = (((x : Int) + (y : Int)) % 2 ^ 32, 0)
    rw [show (((x &&& y : Nat) : Int) + ((x ||| y : Nat) : Int)) = (x : Int) + (y : Int) by omega]
  · show ((((x ||| y : Nat) : Int) - ((x &&& y : Nat) : Int)) % 2 ^ 32, (0 : Int)) = (((x ^^^ y : Nat) : Int), 0)
    rw [show (((x ||| y : Nat) : Int) - ((x &&& y : Nat) : Int)) = ((x ^^^ y : Nat) : Int) by omega]
    rw [Int.emod_eq_of_lt (by omega) (by omega)]

set_option maxHeartbeats 4000000 in
set_option maxRecDepth 100000 in
theorem shifts32 (a b : Int) (w : World) (ha : 0 ≤ a ∧ a < 18446744073709551616) (hb : 0 ≤ b ∧ b < 18446744073709551616) :
    Calls Tryd.prog 9 #[.int .u64 a, .int .u64 b, .bool false] w fun e w' => e = .returned (.bool true) ∧ Below w.heap.size w w' := by
  obtain ⟨x, p, u, v, y, s, hx, h1, hp, hp2, h2, h3, h4, h5, h6, hu, hv, h7, h8⟩ := shf_facts32 (a % 4294967296) (b % 4294967296) (by omega) (by omega)
  have HU := Lib.hid (fun w => up_any w)
  have E1 := Lib.hid (fun w => ev_lit2 (106 + 10) (a % 4294967296) (b % 4294967296) w (by decide) (by decide) (by simp [Num.bitsOf]; omega) (by simp [Num.bitsOf]; omega) _ _ h1)
  have E2 := Lib.hid (fun w => ev_lit2 (106 + 2) (a % 4294967296) p w (by decide) (by decide) (by simp [Num.bitsOf]; omega) (by simp [Num.bitsOf]; omega) _ _ h2)
  have E3 := Lib.hid (fun w => ev_lit2 (106 + 7) (a % 4294967296) (b % 4294967296) w (by decide) (by decide) (by simp [Num.bitsOf]; omega) (by simp [Num.bitsOf]; omega) _ _ h3)
  have E4 := Lib.hid (fun w => ev_lit2 (106 + 8) (a % 4294967296) (b % 4294967296) w (by decide) (by decide) (by simp [Num.bitsOf]; omega) (by simp [Num.bitsOf]; omega) _ _ h4)
  have E5 := Lib.hid (fun w => ev_lit2 (106 + 9) (a % 4294967296) (b % 4294967296) w (by decide) (by decide) (by simp [Num.bitsOf]; omega) (by simp [Num.bitsOf]; omega) _ _ h5)
  have E6 := Lib.hid (fun w => ev_lit2 106 (a % 4294967296) (b % 4294967296) w (by decide) (by decide) (by simp [Num.bitsOf]; omega) (by simp [Num.bitsOf]; omega) _ _ h6)
  have E7 := Lib.hid (fun w => ev_lit2 106 u v w (by decide) (by decide) (by simp [Num.bitsOf]; omega) (by simp [Num.bitsOf]; omega) _ _ h7)
  have E8 := Lib.hid (fun w => ev_lit2 (106 + 1) v u w (by decide) (by decide) (by simp [Num.bitsOf]; omega) (by simp [Num.bitsOf]; omega) _ _ h8)
  rw [show (106 : Int) + 10 = 116 from rfl] at E1
  rw [show (106 : Int) + 2 = 108 from rfl] at E2
  rw [show (106 : Int) + 7 = 113 from rfl] at E3
  rw [show (106 : Int) + 8 = 114 from rfl] at E4
  rw [show (106 : Int) + 9 = 115 from rfl] at E5
  rw [show (106 : Int) + 1 = 107 from rfl] at E8
  clear h1 h2 h3 h4 h5 h6 h7 h8 hx hp hu hv
  rw [show b % 4294967296 % 32 = b % 32 by omega] at hp2
  have HP := Lib.hid hp2
  clear hp2
  obtain ⟨a0, a1⟩ := ha
  obtain ⟨b0, b1⟩ := hb
  go_enter Tryd.func9, Tryd.ntmps9
  go_wp2_with fail
  refine (HU.out _).mono ?_
  rintro e w1 ⟨rfl, hb1⟩
  go_wp2_with fail
  with_reducible refine (E1.out _).mono ?_
  rintro e w2 ⟨rfl, hb2⟩
  replace hb2 := hb1.trans (hb2.mono hb1.size)
  clear hb1
  go_wp2_with fail
  rw [HP.out]
  with_reducible refine (E2.out _).mono ?_
  rintro e w3 ⟨rfl, hb3⟩
  replace hb3 := hb2.trans (hb3.mono hb2.size)
  clear hb2
  go_wp2_with fail
  with_reducible refine (E3.out _).mono ?_
  rintro e w4 ⟨rfl, hb4⟩
  replace hb4 := hb3.trans (hb4.mono hb3.size)
  clear hb3
  go_wp2_with fail
  with_reducible refine (E4.out _).mono ?_
  rintro e w5 ⟨rfl, hb5⟩
  replace hb5 := hb4.trans (hb5.mono hb4.size)
  clear hb4
  go_wp2_with fail
  with_reducible refine (E5.out _).mono ?_
  rintro e w6 ⟨rfl, hb6⟩
  replace hb6 := hb5.trans (hb6.mono hb5.size)
  clear hb5
  go_wp2_with fail
  with_reducible refine (E6.out _).mono ?_
  rintro e w7 ⟨rfl, hb7⟩
  replace hb7 := hb6.trans (hb7.mono hb6.size)
  clear hb6
  go_wp2_with fail
  with_reducible refine (E7.out _).mono ?_
  rintro e w8 ⟨rfl, hb8⟩
  replace hb8 := hb7.trans (hb8.mono hb7.size)
  clear hb7
  go_wp2_with fail
  with_reducible refine (E8.out _).mono ?_
  rintro e w9 ⟨rfl, hb9⟩
  replace hb9 := hb8.trans (hb9.mono hb8.size)
  clear hb8 E1 E2 E3 E4 E5 E6 E7 E8
  have t1 : (x == x) = true := by simp
  have t2 : (s == s) = true := by simp
  have t3 : (y == y) = true := by simp
  go_wp2
  go_ret
  exact ⟨rfl, hb9⟩

theorem shf_facts64 (a b : Int) (ha : 0 ≤ a ∧ a < 18446744073709551616) (hb : 0 ≤ b ∧ b < 18446744073709551616) :
    ∃ x p u v y s : Int, (0 ≤ x) ∧ Num.ev2 (124 + 10) a b = (x, 0) ∧ (0 ≤ p ∧ p < 18446744073709551616) ∧ IntKind.u64.wrap (2 ^ (b % 64).toNat) = p ∧ Num.ev2 (124 + 2) a p = (x, 0) ∧
      Num.ev2 (124 + 7) a b = (u, 0) ∧ Num.ev2 (124 + 8) a b = (v, 0) ∧ Num.ev2 (124 + 9) a b = (y, 0) ∧ Num.ev2 124 a b = (s, 0) ∧
      (0 ≤ u ∧ u < 18446744073709551616) ∧ (0 ≤ v ∧ v < 18446744073709551616) ∧ Num.ev2 124 u v = (s, 0) ∧ Num.ev2 (124 + 1) v u = (y, 0) := by
  obtain ⟨x, rfl⟩ := Int.eq_ofNat_of_zero_le ha.1
  obtain ⟨y, rfl⟩ := Int.eq_ofNat_of_zero_le hb.1
  have l1 : x &&& y < 2 ^ 64 := Nat.and_lt_two_pow _ (by omega)
  have l2 : x ||| y < 2 ^ 64 := Nat.or_lt_two_pow (by omega) (by omega)
  have l3 : x ^^^ y < 2 ^ 64 := Nat.xor_lt_two_pow (by omega) (by omega)
  have e1 := Num.and_or x y
  have e2 := Num.or_xor x y
  have hk : ((y : Int) % 64).toNat < 64 := by omega
  have hp : (2 : Int) ^ ((y : Int) % 64).toNat < 18446744073709551616 := by
    have := Nat.pow_lt_pow_right (a := 2) (by decide) hk
    have h2 : ((2 ^ ((y : Int) % 64).toNat : Nat) : Int) < ((2 ^ 64 : Nat) : Int) := Int.ofNat_lt.2 this
    simpa using h2
  have hp0 : (0 : Int) < 2 ^ ((y : Int) % 64).toNat := Int.pow_pos (by decide)
  refine ⟨_, 2 ^ ((y : Int) % 64).toNat, ((x &&& y : Nat) : Int), ((x ||| y : Nat) : Int), ((x ^^^ y : Nat) : Int), _, ?_, rfl, ⟨by omega, hp⟩, ?_, rfl, rfl, rfl, rfl, rfl, ⟨by omega, by omega⟩, ⟨by omega, by omega⟩, ?_, ?_⟩
  · exact Int.emod_nonneg _ (by decide)
  · rw [IntKind.wrap_u64]; exact Int.emod_eq_of_lt (by omega) (by omega)
  · show ((((x &&& y : Nat) : Int) + ((x ||| y : Nat) : Int)) % 2 ^ 64, (0 : Int)) = (((x : Int) + (y : Int)) % 2 ^ 64, 0)
    rw [show (((x &&& y : Nat) : Int) + ((x ||| y : Nat) : Int)) = (x : Int) + (y : Int) by omega]
  · show ((((x ||| y : Nat) : Int) - ((x &&& y : Nat) : Int)) % 2 ^ 64, (0 : Int)) = (((x ^^^ y : Nat) : Int), 0)
    rw [show (((x ||| y : Nat) : Int) - ((x &&& y : Nat) : Int)) = ((x ^^^ y : Nat) : Int) by omega]
    rw [Int.emod_eq_of_lt (by omega) (by omega)]

set_option maxHeartbeats 4000000 in
set_option maxRecDepth 100000 in
theorem shifts64 (a b : Int) (w : World) (ha : 0 ≤ a ∧ a < 18446744073709551616) (hb : 0 ≤ b ∧ b < 18446744073709551616) :
    Calls Tryd.prog 9 #[.int .u64 a, .int .u64 b, .bool true] w fun e w' => e = .returned (.bool true) ∧ Below w.heap.size w w' := by
  obtain ⟨x, p, u, v, y, s, hx, h1, hp, hp2, h2, h3, h4, h5, h6, hu, hv, h7, h8⟩ := shf_facts64 a b (by omega) (by omega)
  have HU := Lib.hid (fun w => up_any w)
  have E1 := Lib.hid (fun w => ev_lit2 (124 + 10) a b w (by decide) (by decide) (by simp [Num.bitsOf]; omega) (by simp [Num.bitsOf]; omega) _ _ h1)
  have E2 := Lib.hid (fun w => ev_lit2 (124 + 2) a p w (by decide) (by decide) (by simp [Num.bitsOf]; omega) (by simp [Num.bitsOf]; omega) _ _ h2)
  have E3 := Lib.hid (fun w => ev_lit2 (124 + 7) a b w (by decide) (by decide) (by simp [Num.bitsOf]; omega) (by simp [Num.bitsOf]; omega) _ _ h3)
  have E4 := Lib.hid (fun w => ev_lit2 (124 + 8) a b w (by decide) (by decide) (by simp [Num.bitsOf]; omega) (by simp [Num.bitsOf]; omega) _ _ h4)
  have E5 := Lib.hid (fun w => ev_lit2 (124 + 9) a b w (by decide) (by decide) (by simp [Num.bitsOf]; omega) (by simp [Num.bitsOf]; omega) _ _ h5)
  have E6 := Lib.hid (fun w => ev_lit2 124 a b w (by decide) (by decide) (by simp [Num.bitsOf]; omega) (by simp [Num.bitsOf]; omega) _ _ h6)
  have E7 := Lib.hid (fun w => ev_lit2 124 u v w (by decide) (by decide) (by simp [Num.bitsOf]; omega) (by simp [Num.bitsOf]; omega) _ _ h7)
  have E8 := Lib.hid (fun w => ev_lit2 (124 + 1) v u w (by decide) (by decide) (by simp [Num.bitsOf]; omega) (by simp [Num.bitsOf]; omega) _ _ h8)
  rw [show (124 : Int) + 10 = 134 from rfl] at E1
  rw [show (124 : Int) + 2 = 126 from rfl] at E2
  rw [show (124 : Int) + 7 = 131 from rfl] at E3
  rw [show (124 : Int) + 8 = 132 from rfl] at E4
  rw [show (124 : Int) + 9 = 133 from rfl] at E5
  rw [show (124 : Int) + 1 = 125 from rfl] at E8
  clear h1 h2 h3 h4 h5 h6 h7 h8 hx hp hu hv
  have HP := Lib.hid hp2
  clear hp2
  obtain ⟨a0, a1⟩ := ha
  obtain ⟨b0, b1⟩ := hb
  go_enter Tryd.func9, Tryd.ntmps9
  go_wp2_with fail
  refine (HU.out _).mono ?_
  rintro e w1 ⟨rfl, hb1⟩
  go_wp2_with fail
  with_reducible refine (E1.out _).mono ?_
  rintro e w2 ⟨rfl, hb2⟩
  replace hb2 := hb1.trans (hb2.mono hb1.size)
  clear hb1
  go_wp2_with fail
  rw [HP.out]
  with_reducible refine (E2.out _).mono ?_
  rintro e w3 ⟨rfl, hb3⟩
  replace hb3 := hb2.trans (hb3.mono hb2.size)
  clear hb2
  go_wp2_with fail
  with_reducible refine (E3.out _).mono ?_
  rintro e w4 ⟨rfl, hb4⟩
  replace hb4 := hb3.trans (hb4.mono hb3.size)
  clear hb3
  go_wp2_with fail
  with_reducible refine (E4.out _).mono ?_
  rintro e w5 ⟨rfl, hb5⟩
  replace hb5 := hb4.trans (hb5.mono hb4.size)
  clear hb4
  go_wp2_with fail
  with_reducible refine (E5.out _).mono ?_
  rintro e w6 ⟨rfl, hb6⟩
  replace hb6 := hb5.trans (hb6.mono hb5.size)
  clear hb5
  go_wp2_with fail
  with_reducible refine (E6.out _).mono ?_
  rintro e w7 ⟨rfl, hb7⟩
  replace hb7 := hb6.trans (hb7.mono hb6.size)
  clear hb6
  go_wp2_with fail
  with_reducible refine (E7.out _).mono ?_
  rintro e w8 ⟨rfl, hb8⟩
  replace hb8 := hb7.trans (hb8.mono hb7.size)
  clear hb7
  go_wp2_with fail
  with_reducible refine (E8.out _).mono ?_
  rintro e w9 ⟨rfl, hb9⟩
  replace hb9 := hb8.trans (hb9.mono hb8.size)
  clear hb8 E1 E2 E3 E4 E5 E6 E7 E8
  have t1 : (x == x) = true := by simp
  have t2 : (s == s) = true := by simp
  have t3 : (y == y) = true := by simp
  go_wp2
  go_ret
  exact ⟨rfl, hb9⟩

theorem walk_NumShifts (a b : Int) (wide : Bool) (w : World) (ha : (Lit.int .u64 a).wf = true) (hb : (Lit.int .u64 b).wf = true) (_ : TabT w) :
    Calls Tryd.prog 9 #[.int .u64 a, .int .u64 b, .bool wide] w fun e w' => e = .returned (.bool true) ∧ Below w.heap.size w w' := by
  have h1 := bounds_u64 ha
  have h2 := bounds_u64 hb
  cases wide
  · exact shifts32 a b w (by omega) (by omega)
  · exact shifts64 a b w (by omega) (by omega)

end Go.Proofs.YtdenmbigdklhkaaDoor
