/- Contract of the reference's Float. -/
import Derived.Test.YtbhniddgkdldlaaGreatDoorOpU
set_option linter.unusedVariables false
set_option linter.unusedSimpArgs false
namespace Go.Proofs.YtbhniddgkdldlaaGreatDoor
open Go.RowKit

set_option maxHeartbeats 4000000 in
set_option maxRecDepth 100000 in
theorem Float_any (b : Int) (w : World) :
    Calls Tryz.prog 42 #[.int .i64 b] w fun e w' => e = .returned (.bool (Opx.flt b)) ∧ w = w' := by
  obtain ⟨f, hf⟩ : ∃ f, f = Opx.flt b := ⟨_, rfl⟩
  have HF := Lib.hid hf
  rw [← hf]
  clear hf
  go_enter Tryz.func42, Tryz.ntmps42
  go_wp2
  all_goals
    go_ret
    exact ⟨ret_bool (by rw [HF.out]; unfold Opx.flt; first | (symm; rw [decide_eq_true_eq]; omega) | (symm; rw [decide_eq_false_iff_not]; omega) | (rw [Bool.eq_iff_iff]; simp; omega)), rfl⟩

end Go.Proofs.YtbhniddgkdldlaaGreatDoor
