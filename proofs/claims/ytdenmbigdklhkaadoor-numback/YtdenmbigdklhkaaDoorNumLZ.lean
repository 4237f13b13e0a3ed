/- grommetlaw03.NumBack, walked; case Z. -/
import Derived.Test.YtdenmbigdklhkaaDoorNumI
import Derived.Test.YtdenmbigdklhkaaDoorNumMath6
namespace Go.Proofs.YtdenmbigdklhkaaDoor
open Go.RowKit

set_option maxHeartbeats 8000000 in
set_option maxRecDepth 100000 in
theorem back32Z (a b : Int) (w : World) (ha : 0 ≤ a ∧ a < 18446744073709551616) (hb : 0 ≤ b ∧ b < 18446744073709551616) (hT : TabT w) (hz : (b % 4294967296) = 0) :
    Calls Tryd.prog 6 #[.int .u64 a, .int .u64 b, .bool false] w fun e w' => e = .returned (.bool true) ∧ Below w.heap.size w w' := by
  have z3 : Num.ev2 (106 + 3) (a % 4294967296) (b % 4294967296) = (0, 2) := by rw [hz]; rfl
  have Z3 := Lib.hid (fun w => ev_lit2 (106 + 3) (a % 4294967296) (b % 4294967296) w (by decide) (by decide) (by simp [Num.bitsOf]; omega) (by simp [Num.bitsOf]; omega) _ _ z3)
  rw [show (106 : Int) + 3 = 109 from rfl] at Z3
  have z4 : Num.ev2 (106 + 4) (a % 4294967296) (b % 4294967296) = (0, 2) := by rw [hz]; rfl
  have Z4 := Lib.hid (fun w => ev_lit2 (106 + 4) (a % 4294967296) (b % 4294967296) w (by decide) (by decide) (by simp [Num.bitsOf]; omega) (by simp [Num.bitsOf]; omega) _ _ z4)
  rw [show (106 : Int) + 4 = 110 from rfl] at Z4
  have z5 : Num.ev2 (106 + 5) (a % 4294967296) (b % 4294967296) = (0, 2) := by rw [hz]; rfl
  have Z5 := Lib.hid (fun w => ev_lit2 (106 + 5) (a % 4294967296) (b % 4294967296) w (by decide) (by decide) (by simp [Num.bitsOf]; omega) (by simp [Num.bitsOf]; omega) _ _ z5)
  rw [show (106 : Int) + 5 = 111 from rfl] at Z5
  have z6 : Num.ev2 (106 + 6) (a % 4294967296) (b % 4294967296) = (0, 2) := by rw [hz]; rfl
  have Z6 := Lib.hid (fun w => ev_lit2 (106 + 6) (a % 4294967296) (b % 4294967296) w (by decide) (by decide) (by simp [Num.bitsOf]; omega) (by simp [Num.bitsOf]; omega) _ _ z6)
  rw [show (106 : Int) + 6 = 112 from rfl] at Z6
  have tz : ((b % 4294967296) == 0) = true := by rw [hz]; rfl
  have f1 := rot_back_i 32 ((b % 4294967296) % 32).toNat (a % 4294967296) (by omega) (by omega) (by simp; omega)
  obtain ⟨c, hc⟩ : ∃ c, c = Num.rot 32 (a % 4294967296) ((b % 4294967296) % 32).toNat := ⟨_, rfl⟩
  rw [← hc] at f1
  obtain ⟨f2, f3, f4⟩ := f1
  have f4' : c < 4294967296 := f4
  have g1 : Num.ev2 (106 + 13) (a % 4294967296) (b % 4294967296) = (c, 0) := by rw [hc]; rfl
  have g2 : Num.ev2 (106 + 14) c (b % 4294967296) = ((a % 4294967296), 0) := by
    show (Num.rot 32 c (32 - ((b % 4294967296) % 32).toNat), (0 : Int)) = _
    rw [f2]
  obtain ⟨x, hx⟩ : ∃ x, x = Num.sg 32 (a % 4294967296) % 18446744073709551616 := ⟨_, rfl⟩
  have x2 : x % 4294967296 = a % 4294967296 ∧ 0 ≤ x ∧ x < 18446744073709551616 := by
    rw [hx, Num.sg32]
    split <;> omega
  have HU := Lib.hid (fun w => up_any w)
  have C1 := Lib.hid (fun w => ev_lit2 (106 + 13) (a % 4294967296) (b % 4294967296) w (by decide) (by decide) (by simp [Num.bitsOf]; omega) (by simp [Num.bitsOf]; omega) _ _ g1)
  have C2 := Lib.hid (fun w => ev_lit2 (106 + 14) c (b % 4294967296) w (by decide) (by decide) (by simp [Num.bitsOf]; omega) (by simp [Num.bitsOf]; omega) _ _ g2)
  have C3 := Lib.hid (fun w hT => ev_lit1 172 (a % 4294967296) w (by decide) (by decide) (by simp [Num.bitsOf]; omega) hT x (by rw [hx]; rfl))
  have C4 := Lib.hid (fun w hT => ev_lit1 167 x w (by decide) (by decide) (by simp [Num.bitsOf]; omega) hT (a % 4294967296) x2.1)
  have C5 := Lib.hid (fun w hT => ev_lit1 173 (a % 4294967296) w (by decide) (by decide) (by simp [Num.bitsOf]; omega) hT (a % 4294967296) rfl)
  rw [show (106 : Int) + 13 = 119 from rfl] at C1
  rw [show (106 : Int) + 14 = 120 from rfl] at C2
  have t1 : ((a % 4294967296) != (a % 4294967296)) = false := by simp
  have t2 : (a % 4294967296 == a % 4294967296) = true := by simp
  clear f2 f3 f4 f4' g1 g2 hx x2 hc
  clear z3 z4 z5 z6 hz
  obtain ⟨a0, a1⟩ := ha
  obtain ⟨c0, c1⟩ := hb
  have HT := Lib.hid hT
  clear hT
  go_enter Tryd.func6, Tryd.ntmps6
  go_wp2_with fail
  refine (HU.out _).mono ?_
  rintro e w1 ⟨rfl, hb1⟩
  go_wp2
  refine wp_loop_rounds 3 ?_
  rw [rounds_succ]
  go_wp2_with fail
  with_reducible refine (Z3.out _).mono ?_
  rintro e w2 ⟨rfl, hb2⟩
  replace hb2 := hb1.trans (hb2.mono hb1.size)
  clear hb1
  go_wp2_with fail
  with_reducible refine (Z5.out _).mono ?_
  rintro e w3 ⟨rfl, hb3⟩
  replace hb3 := hb2.trans (hb3.mono hb2.size)
  clear hb2
  go_wp2
  rw [rounds_succ]
  go_wp2_with fail
  with_reducible refine (Z4.out _).mono ?_
  rintro e w4 ⟨rfl, hb4⟩
  replace hb4 := hb3.trans (hb4.mono hb3.size)
  clear hb3
  go_wp2_with fail
  with_reducible refine (Z6.out _).mono ?_
  rintro e w5 ⟨rfl, hb5⟩
  replace hb5 := hb4.trans (hb5.mono hb4.size)
  clear hb4
  go_wp2
  rw [rounds_succ]
  go_wp2_with fail
  with_reducible refine (C1.out _).mono ?_
  rintro e wA ⟨rfl, hbA⟩
  replace hbA := hb5.trans (hbA.mono hb5.size)
  clear hb5
  go_wp2_with fail
  with_reducible refine (C2.out _).mono ?_
  rintro e wB ⟨rfl, hbB⟩
  replace hbB := hbA.trans (hbB.mono hbA.size)
  clear hbA
  go_wp2_with fail
  with_reducible refine (C3.out _ (HT.out.below hbB)).mono ?_
  rintro e wC ⟨rfl, hbC⟩
  replace hbC := hbB.trans (hbC.mono hbB.size)
  clear hbB
  go_wp2_with fail
  with_reducible refine (C4.out _ (HT.out.below hbC)).mono ?_
  rintro e wD ⟨rfl, hbD⟩
  replace hbD := hbC.trans (hbD.mono hbC.size)
  clear hbC
  go_wp2_with fail
  with_reducible refine (C5.out _ (HT.out.below hbD)).mono ?_
  rintro e wE ⟨rfl, hbE⟩
  replace hbE := hbD.trans (hbE.mono hbD.size)
  clear hbD
  go_wp2
  go_ret
  exact ⟨rfl, hbE⟩

set_option maxHeartbeats 8000000 in
set_option maxRecDepth 100000 in
theorem back64Z (a b : Int) (w : World) (ha : 0 ≤ a ∧ a < 18446744073709551616) (hb : 0 ≤ b ∧ b < 18446744073709551616) (hT : TabT w) (hz : b = 0) :
    Calls Tryd.prog 6 #[.int .u64 a, .int .u64 b, .bool true] w fun e w' => e = .returned (.bool true) ∧ Below w.heap.size w w' := by
  have z3 : Num.ev2 (124 + 3) a b = (0, 2) := by rw [hz]; rfl
  have Z3 := Lib.hid (fun w => ev_lit2 (124 + 3) a b w (by decide) (by decide) (by simp [Num.bitsOf]; omega) (by simp [Num.bitsOf]; omega) _ _ z3)
  rw [show (124 : Int) + 3 = 127 from rfl] at Z3
  have z4 : Num.ev2 (124 + 4) a b = (0, 2) := by rw [hz]; rfl
  have Z4 := Lib.hid (fun w => ev_lit2 (124 + 4) a b w (by decide) (by decide) (by simp [Num.bitsOf]; omega) (by simp [Num.bitsOf]; omega) _ _ z4)
  rw [show (124 : Int) + 4 = 128 from rfl] at Z4
  have z5 : Num.ev2 (124 + 5) a b = (0, 2) := by rw [hz]; rfl
  have Z5 := Lib.hid (fun w => ev_lit2 (124 + 5) a b w (by decide) (by decide) (by simp [Num.bitsOf]; omega) (by simp [Num.bitsOf]; omega) _ _ z5)
  rw [show (124 : Int) + 5 = 129 from rfl] at Z5
  have z6 : Num.ev2 (124 + 6) a b = (0, 2) := by rw [hz]; rfl
  have Z6 := Lib.hid (fun w => ev_lit2 (124 + 6) a b w (by decide) (by decide) (by simp [Num.bitsOf]; omega) (by simp [Num.bitsOf]; omega) _ _ z6)
  rw [show (124 : Int) + 6 = 130 from rfl] at Z6
  have tz : (b == 0) = true := by rw [hz]; rfl
  have f1 := rot_back_i 64 (b % 64).toNat a (by omega) (by omega) (by simp; omega)
  obtain ⟨c, hc⟩ : ∃ c, c = Num.rot 64 a (b % 64).toNat := ⟨_, rfl⟩
  rw [← hc] at f1
  obtain ⟨f2, f3, f4⟩ := f1
  have f4' : c < 18446744073709551616 := f4
  have g1 : Num.ev2 (124 + 13) a b = (c, 0) := by rw [hc]; rfl
  have g2 : Num.ev2 (124 + 14) c b = (a, 0) := by
    show (Num.rot 64 c (64 - (b % 64).toNat), (0 : Int)) = _
    rw [f2]
  obtain ⟨x, hx⟩ : ∃ x, x = Num.sg 32 (a % 4294967296) % 18446744073709551616 := ⟨_, rfl⟩
  have x2 : x % 4294967296 = a % 4294967296 ∧ 0 ≤ x ∧ x < 18446744073709551616 := by
    rw [hx, Num.sg32]
    split <;> omega
  have HU := Lib.hid (fun w => up_any w)
  have C1 := Lib.hid (fun w => ev_lit2 (124 + 13) a b w (by decide) (by decide) (by simp [Num.bitsOf]; omega) (by simp [Num.bitsOf]; omega) _ _ g1)
  have C2 := Lib.hid (fun w => ev_lit2 (124 + 14) c b w (by decide) (by decide) (by simp [Num.bitsOf]; omega) (by simp [Num.bitsOf]; omega) _ _ g2)
  have C3 := Lib.hid (fun w hT => ev_lit1 172 (a % 4294967296) w (by decide) (by decide) (by simp [Num.bitsOf]; omega) hT x (by rw [hx]; rfl))
  have C4 := Lib.hid (fun w hT => ev_lit1 167 x w (by decide) (by decide) (by simp [Num.bitsOf]; omega) hT (a % 4294967296) x2.1)
  have C5 := Lib.hid (fun w hT => ev_lit1 173 (a % 4294967296) w (by decide) (by decide) (by simp [Num.bitsOf]; omega) hT (a % 4294967296) rfl)
  rw [show (124 : Int) + 13 = 137 from rfl] at C1
  rw [show (124 : Int) + 14 = 138 from rfl] at C2
  have t1 : (a != a) = false := by simp
  have t2 : (a % 4294967296 == a % 4294967296) = true := by simp
  clear f2 f3 f4 f4' g1 g2 hx x2 hc
  clear z3 z4 z5 z6 hz
  obtain ⟨a0, a1⟩ := ha
  obtain ⟨c0, c1⟩ := hb
  have HT := Lib.hid hT
  clear hT
  go_enter Tryd.func6, Tryd.ntmps6
  go_wp2_with fail
  refine (HU.out _).mono ?_
  rintro e w1 ⟨rfl, hb1⟩
  go_wp2
  refine wp_loop_rounds 3 ?_
  rw [rounds_succ]
  go_wp2_with fail
  with_reducible refine (Z3.out _).mono ?_
  rintro e w2 ⟨rfl, hb2⟩
  replace hb2 := hb1.trans (hb2.mono hb1.size)
  clear hb1
  go_wp2_with fail
  with_reducible refine (Z5.out _).mono ?_
  rintro e w3 ⟨rfl, hb3⟩
  replace hb3 := hb2.trans (hb3.mono hb2.size)
  clear hb2
  go_wp2
  rw [rounds_succ]
  go_wp2_with fail
  with_reducible refine (Z4.out _).mono ?_
  rintro e w4 ⟨rfl, hb4⟩
  replace hb4 := hb3.trans (hb4.mono hb3.size)
  clear hb3
  go_wp2_with fail
  with_reducible refine (Z6.out _).mono ?_
  rintro e w5 ⟨rfl, hb5⟩
  replace hb5 := hb4.trans (hb5.mono hb4.size)
  clear hb4
  go_wp2
  rw [rounds_succ]
  go_wp2_with fail
  with_reducible refine (C1.out _).mono ?_
  rintro e wA ⟨rfl, hbA⟩
  replace hbA := hb5.trans (hbA.mono hb5.size)
  clear hb5
  go_wp2_with fail
  with_reducible refine (C2.out _).mono ?_
  rintro e wB ⟨rfl, hbB⟩
  replace hbB := hbA.trans (hbB.mono hbA.size)
  clear hbA
  go_wp2_with fail
  with_reducible refine (C3.out _ (HT.out.below hbB)).mono ?_
  rintro e wC ⟨rfl, hbC⟩
  replace hbC := hbB.trans (hbC.mono hbB.size)
  clear hbB
  go_wp2_with fail
  with_reducible refine (C4.out _ (HT.out.below hbC)).mono ?_
  rintro e wD ⟨rfl, hbD⟩
  replace hbD := hbC.trans (hbD.mono hbC.size)
  clear hbC
  go_wp2_with fail
  with_reducible refine (C5.out _ (HT.out.below hbD)).mono ?_
  rintro e wE ⟨rfl, hbE⟩
  replace hbE := hbD.trans (hbE.mono hbD.size)
  clear hbD
  go_wp2
  go_ret
  exact ⟨rfl, hbE⟩

end Go.Proofs.YtdenmbigdklhkaaDoor
