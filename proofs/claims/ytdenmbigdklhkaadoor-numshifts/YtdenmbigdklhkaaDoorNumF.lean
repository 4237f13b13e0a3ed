/- Contracts of num.narrow, Args, fit. -/
import Derived.Test.YtdenmbigdklhkaaDoorNumA
namespace Go.Proofs.YtdenmbigdklhkaaDoor
open Go.RowKit

namespace Num
/-- the operation that does the same of an I32, and the bits of the arguments. -/
def nrw (op : Int) : Int × Int :=
  if (69 ≤ op ∧ op ≤ 79) ∨ (103 ≤ op ∧ op ≤ 120) ∨ op = 172 ∨ op = 173 then (op, 32)
  else if 80 ≤ op ∧ op ≤ 90 then (op - 11, 64) else if 121 ≤ op ∧ op ≤ 138 then (op - 18, 64)
  else if op = 167 then (167, 64) else (0, 0)
/-- how many arguments; 0: no such operation. -/
def many (op : Int) : Int :=
  if op = 69 ∨ op = 80 ∨ (103 ≤ op ∧ op ≤ 105) ∨ (121 ≤ op ∧ op ≤ 123) ∨ op = 167 ∨ op = 172 ∨ op = 173 then 1
  else if (70 ≤ op ∧ op ≤ 79) ∨ (81 ≤ op ∧ op ≤ 90) ∨ (106 ≤ op ∧ op ≤ 120) ∨ (124 ≤ op ∧ op ≤ 138) then 2 else 0
end Num

theorem isAsk_b (o : Int) (b : Bool) (w : World) (hb : decide (69 ≤ o ∧ o ≤ 79) = b) :
    Calls Tryd.prog 25 #[.int .i64 o] w fun e w' => e = .returned (.bool b) ∧ w = w' := hb ▸ isAsk_any o w
theorem isReckon_b (o : Int) (b : Bool) (w : World) (hb : decide (103 ≤ o ∧ o ≤ 120) = b) :
    Calls Tryd.prog 26 #[.int .i64 o] w fun e w' => e = .returned (.bool b) ∧ w = w' := hb ▸ isReckon_any o w

set_option maxHeartbeats 4000000 in
set_option maxRecDepth 100000 in
theorem narrow_any (op : Int) (w : World) (h0 : -9223372036854775808 ≤ op) (h1 : op ≤ 9223372036854775807) :
    Calls Tryd.prog 16 #[.int .i64 op] w fun e w' => e = .returned (.tuple #[.int .i64 (Num.nrw op).1, .int .i64 (Num.nrw op).2]) ∧ w = w' := by
  by_cases c1 : 69 ≤ op ∧ op ≤ 79
  · have e : Num.nrw op = (op, 32) := by simp only [Num.nrw]; rw [if_pos (by omega)]
    rw [e]
    have HA := Lib.hid (fun w => isAsk_b op true w (by simp; omega))
    clear e c1
    go_enter Tryd.func16, Tryd.ntmps16
    go_wp2_with (go_at_call 25; refine (HA.out _).mono ?_; rintro e w' ⟨rfl, rfl⟩)
    go_ret2
    exact ⟨rfl, rfl⟩
  have HA := Lib.hid (fun w => isAsk_b op false w (by simp; omega))
  by_cases c2 : 103 ≤ op ∧ op ≤ 120
  · have e : Num.nrw op = (op, 32) := by simp only [Num.nrw]; rw [if_pos (by omega)]
    rw [e]
    have HB := Lib.hid (fun w => isReckon_b op true w (by simp; omega))
    clear e c1 c2
    go_enter Tryd.func16, Tryd.ntmps16
    go_wp2_with (first | (go_at_call 25; refine (HA.out _).mono ?_; rintro e w' ⟨rfl, rfl⟩) | (go_at_call 26; refine (HB.out _).mono ?_; rintro e w' ⟨rfl, rfl⟩))
    go_ret2
    exact ⟨rfl, rfl⟩
  have HB := Lib.hid (fun w => isReckon_b op false w (by simp; omega))
  by_cases c3 : op = 172
  · subst c3
    clear c1 c2
    go_enter Tryd.func16, Tryd.ntmps16
    go_wp2_with (first | (go_at_call 25; refine (HA.out _).mono ?_; rintro e w' ⟨rfl, rfl⟩) | (go_at_call 26; refine (HB.out _).mono ?_; rintro e w' ⟨rfl, rfl⟩))
    go_ret2
    exact ⟨rfl, rfl⟩
  by_cases c4 : op = 173
  · subst c4
    clear c1 c2
    go_enter Tryd.func16, Tryd.ntmps16
    go_wp2_with (first | (go_at_call 25; refine (HA.out _).mono ?_; rintro e w' ⟨rfl, rfl⟩) | (go_at_call 26; refine (HB.out _).mono ?_; rintro e w' ⟨rfl, rfl⟩))
    go_ret2
    exact ⟨rfl, rfl⟩
  have t3 : (op == 172) = false := by simp [c3]
  have t4 : (op == 173) = false := by simp [c4]
  obtain ⟨p, hp⟩ : ∃ p, p = wrap64 (op - 11) := ⟨_, rfl⟩
  obtain ⟨q, hq⟩ : ∃ q, q = wrap64 (op - 18) := ⟨_, rfl⟩
  by_cases c5 : 80 ≤ op ∧ op ≤ 90
  · have e : Num.nrw op = (op - 11, 64) := by simp only [Num.nrw]; rw [if_neg (by omega), if_pos (by omega)]
    rw [e]
    have HC := Lib.hid (fun w => isAsk_b (op - 11) true w (by simp; omega))
    clear e hp hq c1 c2
    obtain ⟨c51, c52⟩ := c5
    go_enter Tryd.func16, Tryd.ntmps16
    go_wp2_with (first | (go_at_call 25; first | (with_reducible refine (HA.out _).mono ?_; rintro e w' ⟨rfl, rfl⟩) | (with_reducible refine (HC.out _).mono ?_; rintro e w' ⟨rfl, rfl⟩)) | (go_at_call 26; refine (HB.out _).mono ?_; rintro e w' ⟨rfl, rfl⟩))
    go_ret2
    exact ⟨rfl, rfl⟩
  have HC := Lib.hid (fun w => isAsk_b (wrap64 (op - 11)) false w (by unfold wrap64; simp; omega))
  by_cases c6 : 121 ≤ op ∧ op ≤ 138
  · have e : Num.nrw op = (op - 18, 64) := by simp only [Num.nrw]; rw [if_neg (by omega), if_neg (by omega), if_pos (by omega)]
    rw [e]
    have HC := Lib.hid (fun w => isAsk_b (op - 11) false w (by simp; omega))
    have HD := Lib.hid (fun w => isReckon_b (op - 18) true w (by simp; omega))
    clear e hp hq c1 c2 c5
    obtain ⟨c51, c52⟩ := c6
    go_enter Tryd.func16, Tryd.ntmps16
    go_wp2_with (first | (go_at_call 25; first | (with_reducible refine (HA.out _).mono ?_; rintro e w' ⟨rfl, rfl⟩) | (with_reducible refine (HC.out _).mono ?_; rintro e w' ⟨rfl, rfl⟩)) | (go_at_call 26; first | (with_reducible refine (HB.out _).mono ?_; rintro e w' ⟨rfl, rfl⟩) | (with_reducible refine (HD.out _).mono ?_; rintro e w' ⟨rfl, rfl⟩)))
    go_ret2
    exact ⟨rfl, rfl⟩
  have HD := Lib.hid (fun w => isReckon_b (wrap64 (op - 18)) false w (by unfold wrap64; simp; omega))
  by_cases c7 : op = 167
  · subst c7
    clear HC HD
    have HC := Lib.hid (fun w => isAsk_b 156 false w (by simp))
    have HD := Lib.hid (fun w => isReckon_b 149 false w (by simp))
    clear hp hq c1 c2 c5 c6 c3 c4
    go_enter Tryd.func16, Tryd.ntmps16
    go_wp2_with (first | (go_at_call 25; first | (with_reducible refine (HA.out _).mono ?_; rintro e w' ⟨rfl, rfl⟩) | (with_reducible refine (HC.out _).mono ?_; rintro e w' ⟨rfl, rfl⟩)) | (go_at_call 26; first | (with_reducible refine (HB.out _).mono ?_; rintro e w' ⟨rfl, rfl⟩) | (with_reducible refine (HD.out _).mono ?_; rintro e w' ⟨rfl, rfl⟩)))
    go_ret2
    exact ⟨rfl, rfl⟩
  have t7 : (op == 167) = false := by simp [c7]
  have e : Num.nrw op = (0, 0) := by simp only [Num.nrw]; rw [if_neg (by omega), if_neg (by omega), if_neg (by omega), if_neg (by omega)]
  rw [e]
  clear e c1 c2 c5 c6 hp hq h0 h1
  go_enter Tryd.func16, Tryd.ntmps16
  go_wp2_with (first | (go_at_call 25; first | (with_reducible refine (HA.out _).mono ?_; rintro e w' ⟨rfl, rfl⟩) | (with_reducible refine (HC.out _).mono ?_; rintro e w' ⟨rfl, rfl⟩)) | (go_at_call 26; first | (with_reducible refine (HB.out _).mono ?_; rintro e w' ⟨rfl, rfl⟩) | (with_reducible refine (HD.out _).mono ?_; rintro e w' ⟨rfl, rfl⟩)))
  go_ret2
  exact ⟨rfl, rfl⟩

end Go.Proofs.YtdenmbigdklhkaaDoor
