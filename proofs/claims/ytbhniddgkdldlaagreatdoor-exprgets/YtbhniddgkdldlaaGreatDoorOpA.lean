/- Contracts of op.within, isFloat, nameOf, kindOf, typeOf, argType, gives: for every argument. -/
import Derived.Test.YtbhniddgkdldlaaGreatDoorOpMath
import Derived.Test.YtbhniddgkdldlaaGreatDoorOpArgs
import Derived.Test.YtbhniddgkdldlaaGreatDoorShelf
set_option linter.unusedVariables false
set_option linter.unusedSimpArgs false
namespace Go.Proofs.YtbhniddgkdldlaaGreatDoor
open Go.RowKit

theorem ret_str {a b : ByteArray} (h : a = b) : Ending.returned (.string a) = .returned (.string b) := by rw [h]

/-- the two tables of names lie as the program's text lays them. -/
structure Nam (w : World) : Prop where
  names : ∀ j : Nat, j < 67 → w.cell? ⟨1, j, none⟩ = some (.string (Opx.nmB j))
  numbers : ∀ j : Nat, j < 105 → w.cell? ⟨2, j, none⟩ = some (.string (Opx.nmB ((j : Int) + 69)))
  some_ : ∃ m, w.cell? ⟨3, 0, none⟩ = some (.int .i64 m)

theorem within_any (b x y : Int) (w : World) :
    Calls Tryz.prog 89 #[.int .i64 b, .int .i64 x, .int .i64 y] w fun e w' => e = .returned (.bool (decide (x ≤ b ∧ b ≤ y))) ∧ w = w' := by
  by_cases h : x ≤ b
  · by_cases h2 : b ≤ y
    all_goals
      go_enter Tryz.func89, Tryz.ntmps89
      go_wp2
      go_ret
      exact ⟨ret_bool (by simp; omega), rfl⟩
  · go_enter Tryz.func89, Tryz.ntmps89
    go_wp2
    go_ret
    exact ⟨ret_bool (by simp; omega), rfl⟩

theorem within_b (b x y : Int) (r : Bool) (w : World) (hr : decide (x ≤ b ∧ b ≤ y) = r) :
    Calls Tryz.prog 89 #[.int .i64 b, .int .i64 x, .int .i64 y] w fun e w' => e = .returned (.bool r) ∧ w = w' := hr ▸ within_any b x y w

set_option maxHeartbeats 4000000 in
set_option maxRecDepth 100000 in
theorem kindOf_any (b : Int) (w : World) :
    Calls Tryz.prog 90 #[.int .i64 b] w fun e w' => e = .returned (.int .i64 (Opx.kd b)) ∧ w = w' := by
  go_enter Tryz.func90, Tryz.ntmps90
  go_wp2
  all_goals
    go_ret
    refine ⟨ret_int ?_, rfl⟩
    unfold Opx.kd
    repeat' split
    all_goals first | rfl | omega

theorem typeOf_any (s : ByteArray) (w : World) :
    Calls Tryz.prog 100 #[.string s] w fun e w' => e = .returned (.int .i64 (Opx.ty s.data.toList)) ∧ w = w' := by
  by_cases h : Lib.hasPrefix s.data.toList [105, 54, 52, 46] = true
  · have e : Opx.ty s.data.toList = 2 := by simp [Opx.ty, h]
    rw [e]
    have HP := Lib.hid (fun w => Tryz.strings_HasPrefix s ⟨#[105, 54, 52, 46]⟩ w)
    simp only [h] at HP
    clear e
    go_enter Tryz.func100, Tryz.ntmps100
    go_wp2_with (go_at_call 107; refine (HP.out _).mono ?_; rintro e w' ⟨rfl, rfl⟩)
    go_ret
    exact ⟨rfl, rfl⟩
  · have h' : Lib.hasPrefix s.data.toList [105, 54, 52, 46] = false := by simpa using h
    have e : Opx.ty s.data.toList = 1 := by simp [Opx.ty, h']
    rw [e]
    have HP := Lib.hid (fun w => Tryz.strings_HasPrefix s ⟨#[105, 54, 52, 46]⟩ w)
    simp only [h'] at HP
    clear e h
    go_enter Tryz.func100, Tryz.ntmps100
    go_wp2_with (go_at_call 107; refine (HP.out _).mono ?_; rintro e w' ⟨rfl, rfl⟩)
    go_ret
    exact ⟨rfl, rfl⟩

set_option maxHeartbeats 4000000 in
set_option maxRecDepth 100000 in
theorem isFloat_any (b : Int) (w : World) :
    Calls Tryz.prog 75 #[.int .i64 b] w fun e w' => e = .returned (.bool (Opx.flt b)) ∧ w = w' := by
  have HW := Lib.hid within_b
  by_cases c : b = 42 ∨ b = 43 ∨ b = 56 ∨ b = 57 ∨ b = 67 ∨ b = 68
  · have e : Opx.flt b = true := by simp only [Opx.flt, decide_eq_true_eq]; omega
    rw [e]
    clear e HW
    rcases c with rfl | rfl | rfl | rfl | rfl | rfl
    all_goals
      go_enter Tryz.func75, Tryz.ntmps75
      go_wp2
      go_ret
      exact ⟨rfl, rfl⟩
  have t1 : (b == 42) = false := by simp; omega
  have t2 : (b == 43) = false := by simp; omega
  have t3 : (b == 56) = false := by simp; omega
  have t4 : (b == 57) = false := by simp; omega
  have t5 : (b == 67) = false := by simp; omega
  have t6 : (b == 68) = false := by simp; omega
  by_cases c1 : 91 ≤ b ∧ b ≤ 102
  · have e : Opx.flt b = true := by simp only [Opx.flt, decide_eq_true_eq]; omega
    rw [e]
    have H1 := Lib.hid (fun w => HW.out b 91 102 true w (by simp; omega))
    clear e HW c c1
    go_enter Tryz.func75, Tryz.ntmps75
    go_wp2_with (go_at_call 89; refine (H1.out _).mono ?_; rintro e w' ⟨rfl, rfl⟩)
    go_ret
    exact ⟨rfl, rfl⟩
  have H1 := Lib.hid (fun w => HW.out b 91 102 false w (by simp; omega))
  by_cases c2 : 139 ≤ b ∧ b ≤ 166
  · have e : Opx.flt b = true := by simp only [Opx.flt, decide_eq_true_eq]; omega
    rw [e]
    have H2 := Lib.hid (fun w => HW.out b 139 166 true w (by simp; omega))
    clear e HW c c1 c2
    go_enter Tryz.func75, Tryz.ntmps75
    go_wp2_with (go_at_call 89; (first | with_reducible refine (H1.out _).mono ?_ | with_reducible refine (H2.out _).mono ?_); rintro e w' ⟨rfl, rfl⟩)
    go_ret
    exact ⟨rfl, rfl⟩
  have H2 := Lib.hid (fun w => HW.out b 139 166 false w (by simp; omega))
  by_cases c3 : 168 ≤ b ∧ b ≤ 171
  · have e : Opx.flt b = true := by simp only [Opx.flt, decide_eq_true_eq]; omega
    rw [e]
    have H3 := Lib.hid (fun w => HW.out b 168 171 true w (by simp; omega))
    clear e HW c c1 c2 c3
    go_enter Tryz.func75, Tryz.ntmps75
    go_wp2_with (go_at_call 89; (first | with_reducible refine (H1.out _).mono ?_ | with_reducible refine (H2.out _).mono ?_ | with_reducible refine (H3.out _).mono ?_); rintro e w' ⟨rfl, rfl⟩)
    go_ret
    exact ⟨rfl, rfl⟩
  have H3 := Lib.hid (fun w => HW.out b 168 171 false w (by simp; omega))
  have H4 := Lib.hid (fun w => HW.out b 174 191 _ w rfl)
  have HF : Hid ((decide (174 ≤ b) && decide (b ≤ 191)) = Opx.flt b) := Lib.hid (by rw [Bool.eq_iff_iff]; simp [Opx.flt]; omega)
  clear HW c c1 c2 c3
  go_enter Tryz.func75, Tryz.ntmps75
  go_wp2_with (go_at_call 89; (first | with_reducible refine (H1.out _).mono ?_ | with_reducible refine (H2.out _).mono ?_ | with_reducible refine (H3.out _).mono ?_ | with_reducible refine (H4.out _).mono ?_); rintro e w' ⟨rfl, rfl⟩)
  go_ret
  exact ⟨ret_bool HF.out, rfl⟩

set_option maxHeartbeats 4000000 in
set_option maxRecDepth 100000 in
theorem nameOf_any (b : Int) (w : World) (hN : Nam w) (h0 : -9223372036854775808 ≤ b) (h1 : b ≤ 9223372036854775807) :
    Calls Tryz.prog 76 #[.int .i64 b] w fun e w' => e = .returned (.string (Opx.nmB b)) ∧ w = w' := by
  have HW := Lib.hid within_b
  by_cases c1 : 0 ≤ b ∧ b ≤ 66
  · obtain ⟨j, rfl⟩ := Int.eq_ofNat_of_zero_le c1.1
    have H1 := Lib.hid (fun w => HW.out j 0 66 true w (by simp; omega))
    have hc := hN.names j (by omega)
    have hj : j < 67 := by omega
    clear HW hN c1
    go_enter Tryz.func76, Tryz.ntmps76
    go_wp2_with (go_at_call 89; refine (H1.out _).mono ?_; rintro e w' ⟨rfl, rfl⟩)
    go_ret
    exact ⟨rfl, rfl⟩
  have H1 := Lib.hid (fun w => HW.out b 0 66 false w (by simp; omega))
  by_cases c2 : 69 ≤ b ∧ b ≤ 173
  · have H2 := Lib.hid (fun w => HW.out b 69 173 true w (by simp; omega))
    obtain ⟨j, hj⟩ : ∃ j : Nat, b = (j : Int) + 69 := ⟨(b - 69).toNat, by omega⟩
    subst hj
    have hc := hN.numbers j (by omega)
    have hj : j < 105 := by omega
    clear HW hN c1 c2
    go_enter Tryz.func76, Tryz.ntmps76
    go_wp2_with (go_at_call 89; (first | with_reducible refine (H1.out _).mono ?_ | with_reducible refine (H2.out _).mono ?_); rintro e w' ⟨rfl, rfl⟩)
    go_ret
    exact ⟨rfl, rfl⟩
  have H2 := Lib.hid (fun w => HW.out b 69 173 false w (by simp; omega))
  have e : Opx.nmB b = ⟨#[]⟩ := by
    have : Opx.nm b = [] := by
      unfold Opx.nm
      split
      · have : b = 67 ∨ b = 68 ∨ 174 ≤ b := by omega
        rcases this with rfl | rfl | h
        · rfl
        · rfl
        · rw [List.getD_eq_getElem?_getD, List.getElem?_eq_none (by rw [show Opx.tab.length = 174 by rfl]; omega)]; rfl
      · rfl
    simp [Opx.nmB, this]
  rw [e]
  clear e HW hN c1 c2
  go_enter Tryz.func76, Tryz.ntmps76
  go_wp2_with (go_at_call 89; (first | with_reducible refine (H1.out _).mono ?_ | with_reducible refine (H2.out _).mono ?_); rintro e w' ⟨rfl, rfl⟩)
  go_ret
  exact ⟨rfl, rfl⟩

end Go.Proofs.YtbhniddgkdldlaaGreatDoor
