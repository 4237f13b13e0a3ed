/- What the rows list of package-level variables (errors.errorType alone) gives a walk, and a world in which it lies so. Plain lemmas, no condition. -/
import Derived.Test.YthkdpcoacjgomaaDoorAsS
import Derived.Test.YthkdpcoacjgomaaDoorArgs
import Derived.Test.YthkdpcoacjgomaaDoorSecA
import Derived.Lay
import Derived.LaidLaws
import Derived.LaidHandle
import Derived.ChangeArms
import Derived.OpenShut
import Derived.HandedShaped
set_option linter.unusedVariables false
set_option linter.unusedSimpArgs false
namespace Go.Proofs.YthkdpcoacjgomaaDoor
open Go.RowKit Go.Lib

def LL : List (String × DataW Unit) := [("errors.errorType", Rows.laid_errors_errorType)]
theorem Laid.et : Tryd.prog.globalNamed "errors.errorType" = some 0 := by kernel_rfl
theorem Laid.rt : (Tryd.prog.cutTypes.find? (·.1 == "internal/reflectlite.rtype")).map (·.2) = some 88 := by kernel_rfl
theorem Laid.oneRow : ((List.range 133).filter fun t => Tryd.prog.rowNamed t [101, 114, 114, 111, 114]) = [26] := by kernel_rfl
theorem Laid.size : Tryd.prog.types.size = 133 := by kernel_rfl
theorem Laid.hand : typeHandle Tryd.prog 26 = .pointer (some ⟨1, 26, none⟩) := by kernel_rfl
theorem et_of_handles {W : World} {l : List (String × DataW Unit)} (h : handlesMet Tryd.prog l W) (hm : ("errors.errorType", Rows.laid_errors_errorType) ∈ l) : Et W := by
  obtain ⟨name, u, ty, e1, e2, e3, e4, e5⟩ := h _ hm
  have en : name = [101, 114, 114, 111, 114] := (Option.some.inj e1).symm
  subst en
  obtain rfl := Option.some.inj (Laid.rt.symm.trans e2)
  have hm : ty ∈ (List.range 133).filter fun t => Tryd.prog.rowNamed t [101, 114, 114, 111, 114] := List.mem_filter.2 ⟨List.mem_range.2 (by rw [← Laid.size]; exact e3), e4⟩
  rw [Laid.oneRow] at hm
  obtain rfl := List.mem_singleton.1 hm
  rw [Laid.hand] at e5
  unfold Et
  simpa using World.var?_cell Laid.et e5 0

/-- a world in which it lies so. -/
noncomputable def laidWorld (os : Os) : World :=
  let w0 := World.holding Tryd.prog os ⟨#[], #[], []⟩
  { w0 with heap := w0.heap.modify 0 fun
      | .cells _ t frozen => .cells #[.iface 88 (.agg #[.pointer (some ⟨1, 26, none⟩)])] t frozen
      | o => o }
theorem laidWorld_os (os : Os) : (laidWorld os).os = os := rfl
set_option maxRecDepth 100000 in
theorem laidWorld_met (os : Os) (args : Array Value) : laidMetH Tryd.prog LL ((laidWorld os).forCall (fun _ _ => 0) ⟨#[], args, []⟩).memory :=
  laidMetH_of_parts ⟨[], rfl, List.nodup_nil, fun _ _ h => by cases h⟩ (by kernel_rfl)
set_option maxRecDepth 100000 in
theorem laidWorld_shaped (os : Os) (args : Array Value) : ((laidWorld os).forCall (fun _ _ => 0) ⟨#[], args, []⟩).Shaped Tryd.prog :=
  World.shaped_of_ZipB (by kernel_rfl) (by kernel_rfl)
theorem et_of_laid {W : World} (h : laidMetH Tryd.prog LL W) : Et W := by
  have h' : laidMet Tryd.prog [] W ∧ handlesMet Tryd.prog [("errors.errorType", Rows.laid_errors_errorType)] W := h
  exact et_of_handles h'.2 (List.mem_singleton.2 rfl)
/-- of arguments that are within reach: each of them is. -/
theorem lw_of {H : Type} {P : Program} {ts us : List TypeId} {ds gs : List (DataW H)} (h : (DataW.weightsEach P (ts ++ us) (ds ++ gs)).all (· ≤ reachBytes) = true) {i : Nat} {t : TypeId} {d : DataW H} (ht : ts[i]? = some t) (hd : ds[i]? = some d) : Lw P t d := by
  intro y hy
  have hil : i < ts.length := by
    rcases Nat.lt_or_ge i ts.length with h1 | h1
    · exact h1
    · rw [List.getElem?_eq_none h1] at ht; cases ht
  have hil2 : i < ds.length := by
    rcases Nat.lt_or_ge i ds.length with h1 | h1
    · exact h1
    · rw [List.getElem?_eq_none h1] at hd; cases hd
  have hm := weightsEach_mem (P := P) (ts := ts ++ us) (l := ds ++ gs) (i := i) (by rw [List.getElem?_append_left hil]; exact ht) (by rw [List.getElem?_append_left hil2]; exact hd) hy
  have := List.all_eq_true.1 h y hm
  exact of_decide_eq_true this
end Go.Proofs.YthkdpcoacjgomaaDoor
