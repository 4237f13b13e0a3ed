/- Plain mathematics of layer 5: that what tree asks of an instruction, field by field, is what the document asks. No condition. -/
import Derived.Test.YtbhniddgkdldlaaGreatDoorTreeT
set_option linter.unusedVariables false
set_option linter.unusedSimpArgs false
namespace Go.Proofs.YtbhniddgkdldlaaGreatDoor
open Go.RowKit Trx

theorem all_nil_num (L : List Int) (h : L.length = 0) : L.all num32 = true := by
  rw [List.eq_nil_of_length_eq_zero h]; rfl
theorem num32_iff (n : Int) : num32 n = true ↔ 0 ≤ n ∧ n ≤ 4294967295 := by simp [num32]
theorem isEmpty_iff_len (L : List Int) : L.isEmpty = true ↔ L.length = 0 := by cases L <;> simp
theorem nm_jump (op : Int) (h : Opx.kd op = 3) (hn : Opx.nm op ≠ []) : op = 12 ∨ op = 13 ∨ op = 14 ∨ op = 15 := by
  have h1 : 5 ≤ op ∧ op ≤ 15 := by
    unfold Opx.kd at h
    repeat (split at h)
    all_goals first | omega | (simp at h; done) | skip
  have : op = 5 ∨ op = 6 ∨ op = 7 ∨ op = 8 ∨ op = 9 ∨ op = 10 ∨ op = 11 ∨ op = 12 ∨ op = 13 ∨ op = 14 ∨ op = 15 := by omega
  rcases this with rfl | rfl | rfl | rfl | rfl | rfl | rfl | rfl | rfl | rfl | rfl
  all_goals first | (exact absurd (by decide) hn) | simp
theorem kd_cases (op : Int) : Opx.kd op = 1 ∨ Opx.kd op = 2 ∨ Opx.kd op = 3 ∨ Opx.kd op = 4 ∨ Opx.kd op = 5 ∨ Opx.kd op = 6 ∨ Opx.kd op = 7 ∨ Opx.kd op = 8 ∨ Opx.kd op = 9 ∨ Opx.kd op = 10 ∨ Opx.kd op = 11 := by
  unfold Opx.kd
  repeat (first | split | omega)
theorem kd_ops (op : Int) : (Opx.kd op = 3 ∨ (op ≠ 12 ∧ op ≠ 13 ∧ op ≠ 14)) ∧ (Opx.kd op = 2 ∨ op ≠ 4) ∧ (Opx.kd op = 10 ∨ op ≠ 65) ∧ (Opx.kd op = 10 → op = 65 ∨ op = 66) := by
  unfold Opx.kd
  repeat (first | split | omega)
theorem gv65 : Opx.gv 65 = 1 := by decide +kernel
theorem gv66 : Opx.gv 66 = 2 := by decide +kernel

set_option maxHeartbeats 4000000 in
theorem may_eq (op a b v t : Int) (L : List Int) (lb le : Nat) (nb ne he mb me : Bool) (hn : Opx.nm op ≠ []) (hv : 0 ≤ v) (h1 : nb = decide (lb = 0)) (h2 : ne = decide (le = 0)) (h3 : lb = 0 → mb = true) (h4 : le = 0 → me = true) :
    (bareB (uA (Opx.kd op) op a) (uB (Opx.kd op) b) (uV (Opx.kd op) v) (uT (Opx.kd op) t) (uL (Opx.kd op) op L.length) (uY (Opx.kd op) lb) (uE (Opx.kd op) op he le) (uH (Opx.kd op) op he) && cfB (Opx.kd op) op (Opx.gv op) v t a b L mb me)
      = (fit op a b v t L nb ne he && mb && me) := by
  have hk : knd op = Opx.kd op := by
    unfold knd
    rw [if_neg]
    simpa [List.isEmpty_iff] using hn
  have ho := kd_ops op
  have hj := nm_jump op
  unfold fit
  simp only [hk]
  subst h1 h2
  have hnil := all_nil_num L
  rcases kd_cases op with h | h | h | h | h | h | h | h | h | h | h
  all_goals
    rw [h] at ho hj ⊢
  all_goals
    rw [Bool.eq_iff_iff]
    simp [bareB, uA, uB, uV, uT, uL, uY, uE, uH, cfB, num32_iff, isRes, -List.length_eq_zero_iff, hn] at ho hj ⊢
    have hlen : L.length = 0 ↔ L = [] := List.length_eq_zero_iff
    have hpos : 0 < L.length ↔ ¬ L = [] := by rw [← hlen]; omega
    have hM : L = [] → ∀ (x : Int), x ∈ L → 0 ≤ x ∧ x ≤ 4294967295 := by intro e; subst e; simp
    have hg5 : op = 65 → Opx.gv op = 1 := by intro e; subst e; exact gv65
    have hg6 : op = 66 → Opx.gv op = 2 := by intro e; subst e; exact gv66
    simp only [hlen, hpos]
    clear hlen hpos hnil hk
    generalize hq : (∀ (x : Int), x ∈ L → 0 ≤ x ∧ x ≤ 4294967295) = M at hM ⊢
    clear hq
    generalize (L = []) = E at hM ⊢
    grind
end Go.Proofs.YtbhniddgkdldlaaGreatDoor
