/- Contracts of grommetref03.Args, Bits, truth, bit, low, negative, opposite, less, compare. -/
import Derived.Test.YtdenmbigdklhkaaDoorNumH
namespace Go.Proofs.YtdenmbigdklhkaaDoor
open Go.RowKit

/-- what the reference's Args returns. -/
def refMany (op : Int) : Int := if Num.many op = 0 then -1 else Num.many op

set_option maxHeartbeats 4000000 in
set_option maxRecDepth 100000 in
theorem rArgs_any (op : Int) (w : World) :
    Calls Tryd.prog 12 #[.int .i64 op] w fun e w' => e = .returned (.int .i64 (refMany op)) ∧ w = w' := by
  by_cases l69 : op = 69
  · subst l69
    go_enter Tryd.func12, Tryd.ntmps12
    go_wp2
    go_ret
    exact ⟨rfl, rfl⟩
  have q69 : (op == 69) = false := by simp [l69]
  by_cases l80 : op = 80
  · subst l80
    go_enter Tryd.func12, Tryd.ntmps12
    go_wp2
    go_ret
    exact ⟨rfl, rfl⟩
  have q80 : (op == 80) = false := by simp [l80]
  by_cases l167 : op = 167
  · subst l167
    go_enter Tryd.func12, Tryd.ntmps12
    go_wp2
    go_ret
    exact ⟨rfl, rfl⟩
  have q167 : (op == 167) = false := by simp [l167]
  by_cases l172 : op = 172
  · subst l172
    go_enter Tryd.func12, Tryd.ntmps12
    go_wp2
    go_ret
    exact ⟨rfl, rfl⟩
  have q172 : (op == 172) = false := by simp [l172]
  by_cases l173 : op = 173
  · subst l173
    go_enter Tryd.func12, Tryd.ntmps12
    go_wp2
    go_ret
    exact ⟨rfl, rfl⟩
  have q173 : (op == 173) = false := by simp [l173]
  have hc : (op ≤ 68) ∨ (70 ≤ op ∧ op ≤ 79) ∨ (81 ≤ op ∧ op ≤ 90) ∨ (91 ≤ op ∧ op ≤ 102) ∨ (103 ≤ op ∧ op ≤ 105) ∨ (106 ≤ op ∧ op ≤ 120) ∨ (121 ≤ op ∧ op ≤ 123) ∨ (124 ≤ op ∧ op ≤ 138) ∨ (139 ≤ op ∧ op ≤ 166) ∨ (168 ≤ op ∧ op ≤ 171) ∨ (174 ≤ op) := by omega
  clear l69 l80 l167 l172 l173
  rcases hc with h1 | ⟨h1, h2⟩ | ⟨h1, h2⟩ | ⟨h1, h2⟩ | ⟨h1, h2⟩ | ⟨h1, h2⟩ | ⟨h1, h2⟩ | ⟨h1, h2⟩ | ⟨h1, h2⟩ | ⟨h1, h2⟩ | h1
  · have hv : refMany op = -1 := by
      have hm : Num.many op = 0 := by simp only [beq_eq_false_iff_ne] at q69 q80 q167 q172 q173; unfold Num.many; rw [if_neg (by omega), if_neg (by omega)]
      simp [refMany, hm]
    rw [hv]
    clear hv
    go_enter Tryd.func12, Tryd.ntmps12
    go_wp2
    go_ret
    exact ⟨rfl, rfl⟩
  · have hv : refMany op = 2 := by
      have hm : Num.many op = 2 := by simp only [beq_eq_false_iff_ne] at q69 q80 q167 q172 q173; unfold Num.many; rw [if_neg (by omega), if_pos (by omega)]
      simp [refMany, hm]
    rw [hv]
    clear hv
    go_enter Tryd.func12, Tryd.ntmps12
    go_wp2
    go_ret
    exact ⟨rfl, rfl⟩
  · have hv : refMany op = 2 := by
      have hm : Num.many op = 2 := by simp only [beq_eq_false_iff_ne] at q69 q80 q167 q172 q173; unfold Num.many; rw [if_neg (by omega), if_pos (by omega)]
      simp [refMany, hm]
    rw [hv]
    clear hv
    go_enter Tryd.func12, Tryd.ntmps12
    go_wp2
    go_ret
    exact ⟨rfl, rfl⟩
  · have hv : refMany op = -1 := by
      have hm : Num.many op = 0 := by simp only [beq_eq_false_iff_ne] at q69 q80 q167 q172 q173; unfold Num.many; rw [if_neg (by omega), if_neg (by omega)]
      simp [refMany, hm]
    rw [hv]
    clear hv
    go_enter Tryd.func12, Tryd.ntmps12
    go_wp2
    go_ret
    exact ⟨rfl, rfl⟩
  · have hv : refMany op = 1 := by
      have hm : Num.many op = 1 := by unfold Num.many; rw [if_pos (by omega)]
      simp [refMany, hm]
    rw [hv]
    clear hv
    go_enter Tryd.func12, Tryd.ntmps12
    go_wp2
    go_ret
    exact ⟨rfl, rfl⟩
  · have hv : refMany op = 2 := by
      have hm : Num.many op = 2 := by simp only [beq_eq_false_iff_ne] at q69 q80 q167 q172 q173; unfold Num.many; rw [if_neg (by omega), if_pos (by omega)]
      simp [refMany, hm]
    rw [hv]
    clear hv
    go_enter Tryd.func12, Tryd.ntmps12
    go_wp2
    go_ret
    exact ⟨rfl, rfl⟩
  · have hv : refMany op = 1 := by
      have hm : Num.many op = 1 := by unfold Num.many; rw [if_pos (by omega)]
      simp [refMany, hm]
    rw [hv]
    clear hv
    go_enter Tryd.func12, Tryd.ntmps12
    go_wp2
    go_ret
    exact ⟨rfl, rfl⟩
  · have hv : refMany op = 2 := by
      have hm : Num.many op = 2 := by simp only [beq_eq_false_iff_ne] at q69 q80 q167 q172 q173; unfold Num.many; rw [if_neg (by omega), if_pos (by omega)]
      simp [refMany, hm]
    rw [hv]
    clear hv
    go_enter Tryd.func12, Tryd.ntmps12
    go_wp2
    go_ret
    exact ⟨rfl, rfl⟩
  · have hv : refMany op = -1 := by
      have hm : Num.many op = 0 := by simp only [beq_eq_false_iff_ne] at q69 q80 q167 q172 q173; unfold Num.many; rw [if_neg (by omega), if_neg (by omega)]
      simp [refMany, hm]
    rw [hv]
    clear hv
    go_enter Tryd.func12, Tryd.ntmps12
    go_wp2
    go_ret
    exact ⟨rfl, rfl⟩
  · have hv : refMany op = -1 := by
      have hm : Num.many op = 0 := by simp only [beq_eq_false_iff_ne] at q69 q80 q167 q172 q173; unfold Num.many; rw [if_neg (by omega), if_neg (by omega)]
      simp [refMany, hm]
    rw [hv]
    clear hv
    go_enter Tryd.func12, Tryd.ntmps12
    go_wp2
    go_ret
    exact ⟨rfl, rfl⟩
  · have hv : refMany op = -1 := by
      have hm : Num.many op = 0 := by simp only [beq_eq_false_iff_ne] at q69 q80 q167 q172 q173; unfold Num.many; rw [if_neg (by omega), if_neg (by omega)]
      simp [refMany, hm]
    rw [hv]
    clear hv
    go_enter Tryd.func12, Tryd.ntmps12
    go_wp2
    go_ret
    exact ⟨rfl, rfl⟩

set_option maxHeartbeats 4000000 in
set_option maxRecDepth 100000 in
theorem rBits_any (op : Int) (w : World) :
    Calls Tryd.prog 14 #[.int .i64 op] w fun e w' => e = .returned (.int .i64 (Num.bitsOf op)) ∧ w = w' := by
  by_cases l69 : op = 69
  · subst l69
    go_enter Tryd.func14, Tryd.ntmps14
    go_wp2
    go_ret
    exact ⟨rfl, rfl⟩
  have q69 : (op == 69) = false := by simp [l69]
  by_cases l80 : op = 80
  · subst l80
    go_enter Tryd.func14, Tryd.ntmps14
    go_wp2
    go_ret
    exact ⟨rfl, rfl⟩
  have q80 : (op == 80) = false := by simp [l80]
  by_cases l167 : op = 167
  · subst l167
    go_enter Tryd.func14, Tryd.ntmps14
    go_wp2
    go_ret
    exact ⟨rfl, rfl⟩
  have q167 : (op == 167) = false := by simp [l167]
  by_cases l172 : op = 172
  · subst l172
    go_enter Tryd.func14, Tryd.ntmps14
    go_wp2
    go_ret
    exact ⟨rfl, rfl⟩
  have q172 : (op == 172) = false := by simp [l172]
  by_cases l173 : op = 173
  · subst l173
    go_enter Tryd.func14, Tryd.ntmps14
    go_wp2
    go_ret
    exact ⟨rfl, rfl⟩
  have q173 : (op == 173) = false := by simp [l173]
  have hc : (op ≤ 68) ∨ (70 ≤ op ∧ op ≤ 79) ∨ (81 ≤ op ∧ op ≤ 90) ∨ (91 ≤ op ∧ op ≤ 102) ∨ (103 ≤ op ∧ op ≤ 105) ∨ (106 ≤ op ∧ op ≤ 120) ∨ (121 ≤ op ∧ op ≤ 123) ∨ (124 ≤ op ∧ op ≤ 138) ∨ (139 ≤ op ∧ op ≤ 166) ∨ (168 ≤ op ∧ op ≤ 171) ∨ (174 ≤ op) := by omega
  clear l69 l80 l167 l172 l173
  rcases hc with h1 | ⟨h1, h2⟩ | ⟨h1, h2⟩ | ⟨h1, h2⟩ | ⟨h1, h2⟩ | ⟨h1, h2⟩ | ⟨h1, h2⟩ | ⟨h1, h2⟩ | ⟨h1, h2⟩ | ⟨h1, h2⟩ | h1
  · have hv : Num.bitsOf op = 32 := by
      simp only [beq_eq_false_iff_ne] at q69 q80 q167 q172 q173; unfold Num.bitsOf; rw [if_neg (by omega)]
    rw [hv]
    clear hv
    go_enter Tryd.func14, Tryd.ntmps14
    go_wp2
    go_ret
    exact ⟨rfl, rfl⟩
  · have hv : Num.bitsOf op = 32 := by
      simp only [beq_eq_false_iff_ne] at q69 q80 q167 q172 q173; unfold Num.bitsOf; rw [if_neg (by omega)]
    rw [hv]
    clear hv
    go_enter Tryd.func14, Tryd.ntmps14
    go_wp2
    go_ret
    exact ⟨rfl, rfl⟩
  · have hv : Num.bitsOf op = 64 := by
      simp only [beq_eq_false_iff_ne] at q69 q80 q167 q172 q173; unfold Num.bitsOf; rw [if_pos (by omega)]
    rw [hv]
    clear hv
    go_enter Tryd.func14, Tryd.ntmps14
    go_wp2
    go_ret
    exact ⟨rfl, rfl⟩
  · have hv : Num.bitsOf op = 32 := by
      simp only [beq_eq_false_iff_ne] at q69 q80 q167 q172 q173; unfold Num.bitsOf; rw [if_neg (by omega)]
    rw [hv]
    clear hv
    go_enter Tryd.func14, Tryd.ntmps14
    go_wp2
    go_ret
    exact ⟨rfl, rfl⟩
  · have hv : Num.bitsOf op = 32 := by
      simp only [beq_eq_false_iff_ne] at q69 q80 q167 q172 q173; unfold Num.bitsOf; rw [if_neg (by omega)]
    rw [hv]
    clear hv
    go_enter Tryd.func14, Tryd.ntmps14
    go_wp2
    go_ret
    exact ⟨rfl, rfl⟩
  · have hv : Num.bitsOf op = 32 := by
      simp only [beq_eq_false_iff_ne] at q69 q80 q167 q172 q173; unfold Num.bitsOf; rw [if_neg (by omega)]
    rw [hv]
    clear hv
    go_enter Tryd.func14, Tryd.ntmps14
    go_wp2
    go_ret
    exact ⟨rfl, rfl⟩
  · have hv : Num.bitsOf op = 64 := by
      simp only [beq_eq_false_iff_ne] at q69 q80 q167 q172 q173; unfold Num.bitsOf; rw [if_pos (by omega)]
    rw [hv]
    clear hv
    go_enter Tryd.func14, Tryd.ntmps14
    go_wp2
    go_ret
    exact ⟨rfl, rfl⟩
  · have hv : Num.bitsOf op = 64 := by
      simp only [beq_eq_false_iff_ne] at q69 q80 q167 q172 q173; unfold Num.bitsOf; rw [if_pos (by omega)]
    rw [hv]
    clear hv
    go_enter Tryd.func14, Tryd.ntmps14
    go_wp2
    go_ret
    exact ⟨rfl, rfl⟩
  · have hv : Num.bitsOf op = 32 := by
      simp only [beq_eq_false_iff_ne] at q69 q80 q167 q172 q173; unfold Num.bitsOf; rw [if_neg (by omega)]
    rw [hv]
    clear hv
    go_enter Tryd.func14, Tryd.ntmps14
    go_wp2
    go_ret
    exact ⟨rfl, rfl⟩
  · have hv : Num.bitsOf op = 32 := by
      simp only [beq_eq_false_iff_ne] at q69 q80 q167 q172 q173; unfold Num.bitsOf; rw [if_neg (by omega)]
    rw [hv]
    clear hv
    go_enter Tryd.func14, Tryd.ntmps14
    go_wp2
    go_ret
    exact ⟨rfl, rfl⟩
  · have hv : Num.bitsOf op = 32 := by
      simp only [beq_eq_false_iff_ne] at q69 q80 q167 q172 q173; unfold Num.bitsOf; rw [if_neg (by omega)]
    rw [hv]
    clear hv
    go_enter Tryd.func14, Tryd.ntmps14
    go_wp2
    go_ret
    exact ⟨rfl, rfl⟩

end Go.Proofs.YtdenmbigdklhkaaDoor
