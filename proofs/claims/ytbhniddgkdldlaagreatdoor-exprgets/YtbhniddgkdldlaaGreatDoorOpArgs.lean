/- Contracts of num.isAsk, isReckon, narrow, Args alone (for a seat that comes to num.Args and to nothing else of layer 3). Out of NumA, NumF, NumG, word for word. -/
import Derived.Test.YtbhniddgkdldlaaGreatDoorMem
import Derived.Laws.BitsAllLaws
import Derived.IntWalk
set_option linter.unusedVariables false
set_option linter.unusedSimpArgs false
namespace Go.Proofs.YtbhniddgkdldlaaGreatDoor
open Go.RowKit

theorem ret_int {k : IntKind} {a b : Int} (h : a = b) : Ending.returned (.int k a) = .returned (.int k b) := by rw [h]
theorem ret_bool {a b : Bool} (h : a = b) : Ending.returned (.bool a) = .returned (.bool b) := by rw [h]
theorem ret2 {a b a' b' : Value} (h1 : a = a') (h2 : b = b') : Ending.returned (.tuple #[a, b]) = .returned (.tuple #[a', b']) := by rw [h1, h2]

theorem isAsk_any (op : Int) (w : World) :
    Calls Tryz.prog 113 #[.int .i64 op] w fun e w' => e = .returned (.bool (decide (69 ≤ op ∧ op ≤ 79))) ∧ w = w' := by
  by_cases h : 69 ≤ op
  · by_cases h2 : op ≤ 79
    all_goals
      go_enter Tryz.func113, Tryz.ntmps113
      go_wp2
      go_ret
      exact ⟨ret_bool (by simp; omega), rfl⟩
  · go_enter Tryz.func113, Tryz.ntmps113
    go_wp2
    go_ret
    exact ⟨ret_bool (by simp; omega), rfl⟩

theorem isReckon_any (op : Int) (w : World) :
    Calls Tryz.prog 114 #[.int .i64 op] w fun e w' => e = .returned (.bool (decide (103 ≤ op ∧ op ≤ 120))) ∧ w = w' := by
  by_cases h : 103 ≤ op
  · by_cases h2 : op ≤ 120
    all_goals
      go_enter Tryz.func114, Tryz.ntmps114
      go_wp2
      go_ret
      exact ⟨ret_bool (by simp; omega), rfl⟩
  · go_enter Tryz.func114, Tryz.ntmps114
    go_wp2
    go_ret
    exact ⟨ret_bool (by simp; omega), rfl⟩

namespace Num
/-- the operation that does the same of an I32, and the bits of the arguments. -/
def nrw (op : Int) : Int × Int :=
  if (69 ≤ op ∧ op ≤ 79) ∨ (103 ≤ op ∧ op ≤ 120) ∨ op = 172 ∨ op = 173 then (op, 32)
  else if 80 ≤ op ∧ op ≤ 90 then (op - 11, 64) else if 121 ≤ op ∧ op ≤ 138 then (op - 18, 64)
  else if op = 167 then (167, 64) else (0, 0)
/-- how many arguments; 0: no such operation. -/
def many (op : Int) : Int :=
  if op = 69 ∨ op = 80 ∨ (103 ≤ op ∧ op ≤ 105) ∨ (121 ≤ op ∧ op ≤ 123) ∨ op = 167 ∨ op = 172 ∨ op = 173 then 1
  else if (70 ≤ op ∧ op ≤ 79) ∨ (81 ≤ op ∧ op ≤ 90) ∨ (106 ≤ op ∧ op ≤ 120) ∨ (124 ≤ op ∧ op ≤ 138) then 2 else 0
end Num

theorem isAsk_b (o : Int) (b : Bool) (w : World) (hb : decide (69 ≤ o ∧ o ≤ 79) = b) :
    Calls Tryz.prog 113 #[.int .i64 o] w fun e w' => e = .returned (.bool b) ∧ w = w' := hb ▸ isAsk_any o w
theorem isReckon_b (o : Int) (b : Bool) (w : World) (hb : decide (103 ≤ o ∧ o ≤ 120) = b) :
    Calls Tryz.prog 114 #[.int .i64 o] w fun e w' => e = .returned (.bool b) ∧ w = w' := hb ▸ isReckon_any o w

set_option maxHeartbeats 4000000 in
set_option maxRecDepth 100000 in
theorem narrow_any (op : Int) (w : World) (h0 : -9223372036854775808 ≤ op) (h1 : op ≤ 9223372036854775807) :
    Calls Tryz.prog 108 #[.int .i64 op] w fun e w' => e = .returned (.tuple #[.int .i64 (Num.nrw op).1, .int .i64 (Num.nrw op).2]) ∧ w = w' := by
  by_cases c1 : 69 ≤ op ∧ op ≤ 79
  · have e : Num.nrw op = (op, 32) := by simp only [Num.nrw]; rw [if_pos (by omega)]
    rw [e]
    have HA := Lib.hid (fun w => isAsk_b op true w (by simp; omega))
    clear e c1
    go_enter Tryz.func108, Tryz.ntmps108
    go_wp2_with (go_at_call 113; refine (HA.out _).mono ?_; rintro e w' ⟨rfl, rfl⟩)
    go_ret2
    exact ⟨rfl, rfl⟩
  have HA := Lib.hid (fun w => isAsk_b op false w (by simp; omega))
  by_cases c2 : 103 ≤ op ∧ op ≤ 120
  · have e : Num.nrw op = (op, 32) := by simp only [Num.nrw]; rw [if_pos (by omega)]
    rw [e]
    have HB := Lib.hid (fun w => isReckon_b op true w (by simp; omega))
    clear e c1 c2
    go_enter Tryz.func108, Tryz.ntmps108
    go_wp2_with (first | (go_at_call 113; refine (HA.out _).mono ?_; rintro e w' ⟨rfl, rfl⟩) | (go_at_call 114; refine (HB.out _).mono ?_; rintro e w' ⟨rfl, rfl⟩))
    go_ret2
    exact ⟨rfl, rfl⟩
  have HB := Lib.hid (fun w => isReckon_b op false w (by simp; omega))
  by_cases c3 : op = 172
  · subst c3
    clear c1 c2
    go_enter Tryz.func108, Tryz.ntmps108
    go_wp2_with (first | (go_at_call 113; refine (HA.out _).mono ?_; rintro e w' ⟨rfl, rfl⟩) | (go_at_call 114; refine (HB.out _).mono ?_; rintro e w' ⟨rfl, rfl⟩))
    go_ret2
    exact ⟨rfl, rfl⟩
  by_cases c4 : op = 173
  · subst c4
    clear c1 c2
    go_enter Tryz.func108, Tryz.ntmps108
    go_wp2_with (first | (go_at_call 113; refine (HA.out _).mono ?_; rintro e w' ⟨rfl, rfl⟩) | (go_at_call 114; refine (HB.out _).mono ?_; rintro e w' ⟨rfl, rfl⟩))
    go_ret2
    exact ⟨rfl, rfl⟩
  have t3 : (op == 172) = false := by simp [c3]
  have t4 : (op == 173) = false := by simp [c4]
  obtain ⟨p, hp⟩ : ∃ p, p = wrap64 (op - 11) := ⟨_, rfl⟩
  obtain ⟨q, hq⟩ : ∃ q, q = wrap64 (op - 18) := ⟨_, rfl⟩
  by_cases c5 : 80 ≤ op ∧ op ≤ 90
  · have e : Num.nrw op = (op - 11, 64) := by simp only [Num.nrw]; rw [if_neg (by omega), if_pos (by omega)]
    rw [e]
    have HC := Lib.hid (fun w => isAsk_b (op - 11) true w (by simp; omega))
    clear e hp hq c1 c2
    obtain ⟨c51, c52⟩ := c5
    go_enter Tryz.func108, Tryz.ntmps108
    go_wp2_with (first | (go_at_call 113; first | (with_reducible refine (HA.out _).mono ?_; rintro e w' ⟨rfl, rfl⟩) | (with_reducible refine (HC.out _).mono ?_; rintro e w' ⟨rfl, rfl⟩)) | (go_at_call 114; refine (HB.out _).mono ?_; rintro e w' ⟨rfl, rfl⟩))
    go_ret2
    exact ⟨rfl, rfl⟩
  have HC := Lib.hid (fun w => isAsk_b (wrap64 (op - 11)) false w (by unfold wrap64; simp; omega))
  by_cases c6 : 121 ≤ op ∧ op ≤ 138
  · have e : Num.nrw op = (op - 18, 64) := by simp only [Num.nrw]; rw [if_neg (by omega), if_neg (by omega), if_pos (by omega)]
    rw [e]
    have HC := Lib.hid (fun w => isAsk_b (op - 11) false w (by simp; omega))
    have HD := Lib.hid (fun w => isReckon_b (op - 18) true w (by simp; omega))
    clear e hp hq c1 c2 c5
    obtain ⟨c51, c52⟩ := c6
    go_enter Tryz.func108, Tryz.ntmps108
    go_wp2_with (first | (go_at_call 113; first | (with_reducible refine (HA.out _).mono ?_; rintro e w' ⟨rfl, rfl⟩) | (with_reducible refine (HC.out _).mono ?_; rintro e w' ⟨rfl, rfl⟩)) | (go_at_call 114; first | (with_reducible refine (HB.out _).mono ?_; rintro e w' ⟨rfl, rfl⟩) | (with_reducible refine (HD.out _).mono ?_; rintro e w' ⟨rfl, rfl⟩)))
    go_ret2
    exact ⟨rfl, rfl⟩
  have HD := Lib.hid (fun w => isReckon_b (wrap64 (op - 18)) false w (by unfold wrap64; simp; omega))
  by_cases c7 : op = 167
  · subst c7
    clear HC HD
    have HC := Lib.hid (fun w => isAsk_b 156 false w (by simp))
    have HD := Lib.hid (fun w => isReckon_b 149 false w (by simp))
    clear hp hq c1 c2 c5 c6 c3 c4
    go_enter Tryz.func108, Tryz.ntmps108
    go_wp2_with (first | (go_at_call 113; first | (with_reducible refine (HA.out _).mono ?_; rintro e w' ⟨rfl, rfl⟩) | (with_reducible refine (HC.out _).mono ?_; rintro e w' ⟨rfl, rfl⟩)) | (go_at_call 114; first | (with_reducible refine (HB.out _).mono ?_; rintro e w' ⟨rfl, rfl⟩) | (with_reducible refine (HD.out _).mono ?_; rintro e w' ⟨rfl, rfl⟩)))
    go_ret2
    exact ⟨rfl, rfl⟩
  have t7 : (op == 167) = false := by simp [c7]
  have e : Num.nrw op = (0, 0) := by simp only [Num.nrw]; rw [if_neg (by omega), if_neg (by omega), if_neg (by omega), if_neg (by omega)]
  rw [e]
  clear e c1 c2 c5 c6 hp hq h0 h1
  go_enter Tryz.func108, Tryz.ntmps108
  go_wp2_with (first | (go_at_call 113; first | (with_reducible refine (HA.out _).mono ?_; rintro e w' ⟨rfl, rfl⟩) | (with_reducible refine (HC.out _).mono ?_; rintro e w' ⟨rfl, rfl⟩)) | (go_at_call 114; first | (with_reducible refine (HB.out _).mono ?_; rintro e w' ⟨rfl, rfl⟩) | (with_reducible refine (HD.out _).mono ?_; rintro e w' ⟨rfl, rfl⟩)))
  go_ret2
  exact ⟨rfl, rfl⟩

/-- what num.Args returns. -/
def argsR (op : Int) : Value := .tuple #[.int .i64 (Num.many op), .bool (decide (Num.many op ≠ 0))]

theorem many_one (op : Int) (h : Num.many op = 1) : op = 69 ∨ op = 80 ∨ (103 ≤ op ∧ op ≤ 105) ∨ (121 ≤ op ∧ op ≤ 123) ∨ op = 167 ∨ op = 172 ∨ op = 173 := by
  unfold Num.many at h
  split at h
  · assumption
  · split at h <;> omega
theorem many_two (op : Int) (h : Num.many op = 2) : (70 ≤ op ∧ op ≤ 79) ∨ (81 ≤ op ∧ op ≤ 90) ∨ (106 ≤ op ∧ op ≤ 120) ∨ (124 ≤ op ∧ op ≤ 138) := by
  unfold Num.many at h
  split at h
  · omega
  · split at h
    · assumption
    · omega
theorem many_cases (op : Int) : Num.many op = 1 ∨ Num.many op = 2 ∨ Num.many op = 0 := by
  unfold Num.many
  repeat' split
  all_goals omega
theorem many_else (op : Int) (h1 : ¬ Num.many op = 1) (h2 : ¬ Num.many op = 2) : Num.many op = 0 := by
  rcases many_cases op with h | h | h
  · exact absurd h h1
  · exact absurd h h2
  · exact h
theorem many_zero (op : Int) (h : Num.many op = 0) : ¬ (op = 69 ∨ op = 80 ∨ (103 ≤ op ∧ op ≤ 105) ∨ (121 ≤ op ∧ op ≤ 123) ∨ op = 167 ∨ op = 172 ∨ op = 173) ∧ ¬ ((70 ≤ op ∧ op ≤ 79) ∨ (81 ≤ op ∧ op ≤ 90) ∨ (106 ≤ op ∧ op ≤ 120) ∨ (124 ≤ op ∧ op ≤ 138)) := by
  unfold Num.many at h
  split at h
  · omega
  · split at h
    · omega
    · constructor <;> assumption

set_option maxHeartbeats 4000000 in
set_option maxRecDepth 100000 in
theorem Args_any (op : Int) (w : World) (h0 : -9223372036854775808 ≤ op) (h1 : op ≤ 9223372036854775807) :
    Calls Tryz.prog 101 #[.int .i64 op] w fun e w' => e = .returned (argsR op) ∧ w = w' := by
  have HN := Lib.hid (fun w => narrow_any op w h0 h1)
  by_cases c1 : Num.many op = 1
  · have hr : argsR op = .tuple #[.int .i64 1, .bool true] := by simp [argsR, c1]
    rw [hr]
    have hs : (Num.nrw op).2 ≠ 0 ∧ ((Num.nrw op).1 = 69 ∨ (Num.nrw op).1 = 103 ∨ (Num.nrw op).1 = 104 ∨ (Num.nrw op).1 = 105 ∨ (Num.nrw op).1 = 167 ∨ (Num.nrw op).1 = 172 ∨ (Num.nrw op).1 = 173) := by
      have hm := many_one op c1
      unfold Num.nrw
      repeat' split
      all_goals omega
    obtain ⟨s, hs1⟩ : ∃ s, s = (Num.nrw op).1 := ⟨_, rfl⟩
    obtain ⟨v, hs2⟩ : ∃ v, v = (Num.nrw op).2 := ⟨_, rfl⟩
    rw [← hs1, ← hs2] at hs HN
    obtain ⟨hv, hs⟩ := hs
    have hv' : (v == 0) = false := by simp [hv]
    clear hr c1 hs1 hs2 h0 h1
    rcases hs with rfl | rfl | rfl | rfl | rfl | rfl | rfl
    all_goals
      go_enter Tryz.func101, Tryz.ntmps101
      go_wp2_with (go_at_call 108; refine (HN.out _).mono ?_; rintro e w' ⟨rfl, rfl⟩)
      go_ret2
      exact ⟨rfl, rfl⟩
  by_cases c2 : Num.many op = 2
  · have hr : argsR op = .tuple #[.int .i64 2, .bool true] := by simp [argsR, c2]
    rw [hr]
    have hs : (Num.nrw op).2 ≠ 0 ∧ ¬ ((Num.nrw op).1 = 69 ∨ (Num.nrw op).1 = 103 ∨ (Num.nrw op).1 = 104 ∨ (Num.nrw op).1 = 105 ∨ (Num.nrw op).1 = 167 ∨ (Num.nrw op).1 = 172 ∨ (Num.nrw op).1 = 173) := by
      have hm := many_two op c2
      unfold Num.nrw
      repeat' split
      all_goals omega
    obtain ⟨s, hs1⟩ : ∃ s, s = (Num.nrw op).1 := ⟨_, rfl⟩
    obtain ⟨v, hs2⟩ : ∃ v, v = (Num.nrw op).2 := ⟨_, rfl⟩
    rw [← hs1, ← hs2] at hs HN
    obtain ⟨hv, hs⟩ := hs
    have hv' : (v == 0) = false := by simp [hv]
    have t1 : (s == 69) = false := by simp; omega
    have t2 : (s == 103) = false := by simp; omega
    have t3 : (s == 104) = false := by simp; omega
    have t4 : (s == 105) = false := by simp; omega
    have t5 : (s == 167) = false := by simp; omega
    have t6 : (s == 172) = false := by simp; omega
    have t7 : (s == 173) = false := by simp; omega
    clear hr c1 c2 hs1 hs2 h0 h1 hs
    go_enter Tryz.func101, Tryz.ntmps101
    go_wp2_with (go_at_call 108; refine (HN.out _).mono ?_; rintro e w' ⟨rfl, rfl⟩)
    go_ret2
    exact ⟨rfl, rfl⟩
  have c0 := many_else op c1 c2
  have hr : argsR op = .tuple #[.int .i64 0, .bool false] := by simp [argsR, c0]
  rw [hr]
  have hs : Num.nrw op = (0, 0) := by
    have hm := many_zero op c0
    unfold Num.nrw
    rw [if_neg (by omega), if_neg (by omega), if_neg (by omega), if_neg (by omega)]
  rw [hs] at HN
  clear hr c1 c2 c0 hs h0 h1
  go_enter Tryz.func101, Tryz.ntmps101
  go_wp2_with (go_at_call 108; refine (HN.out _).mono ?_; rintro e w' ⟨rfl, rfl⟩)
  go_ret2
  exact ⟨rfl, rfl⟩

end Go.Proofs.YtbhniddgkdldlaaGreatDoor
