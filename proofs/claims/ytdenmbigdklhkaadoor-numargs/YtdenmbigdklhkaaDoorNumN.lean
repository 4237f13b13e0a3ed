/- grommetlaw03.NumArgs returns true for every input. -/
import Derived.Test.YtdenmbigdklhkaaDoorNumI
import Derived.Test.YtdenmbigdklhkaaDoorRefA
namespace Go.Proofs.YtdenmbigdklhkaaDoor
open Go.RowKit

set_option maxHeartbeats 2000000 in
set_option maxRecDepth 100000 in
theorem walk_NumArgs (op : Int) (w : World) (ho : (Lit.int .i64 op).wf = true) (_ : TabT w) :
    Calls Tryd.prog 3 #[.int .i64 op] w fun e w' => e = .returned (.bool true) ∧ Below w.heap.size w w' := by
  obtain ⟨o0, o1⟩ := bounds_i64 ho
  have HU := Lib.hid (fun w => up_any w)
  have HA := Lib.hid (fun w => Args_any op w o0 o1)
  have HR := Lib.hid (fun w => rArgs_any op w)
  clear ho
  have hm := many_cases op
  unfold argsR at HA
  unfold refMany at HR
  obtain ⟨m, hmm⟩ : ∃ m, m = Num.many op := ⟨_, rfl⟩
  rw [← hmm] at HA HR hm
  clear hmm o0 o1
  rcases hm with rfl | rfl | rfl
  all_goals
    simp only [ne_eq, Int.reduceEq, not_false_eq_true, decide_true, if_false, not_true_eq_false, decide_false, if_true] at HA HR
    go_enter Tryd.func3, Tryd.ntmps3
    go_wp2_with fail
    refine (HU.out _).mono ?_
    rintro e w1 ⟨rfl, hb1⟩
    go_wp2_with (first | (go_at_call 11; refine (HA.out _).mono ?_; rintro e w' ⟨rfl, rfl⟩) | (go_at_call 12; refine (HR.out _).mono ?_; rintro e w' ⟨rfl, rfl⟩))
    go_ret
    exact ⟨rfl, hb1⟩

end Go.Proofs.YtdenmbigdklhkaaDoor
