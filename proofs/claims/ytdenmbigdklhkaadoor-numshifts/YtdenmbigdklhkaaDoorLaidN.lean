/- What the rows list of package-level variables (math/bits' deBruijn64tab) gives a walk, and a world in which it lies so. Plain lemmas, no condition. -/
import Derived.Test.YtdenmbigdklhkaaDoorBits
import Derived.Test.YtdenmbigdklhkaaDoorArgs
import Derived.Lay
import Derived.LaidLaws
import Derived.LaidHandle
import Derived.ChangeArms
import Derived.Lib.LaidTab
namespace Go.Proofs.YtdenmbigdklhkaaDoor
open Go.RowKit Go.Lib

def LL : List (String × DataW Unit) := [("math/bits.deBruijn64tab", Rows.laid_math_bits_deBruijn64tab)]
theorem Laid.tabIs : (Rows.laid_math_bits_deBruijn64tab : DataW Unit) = tabData .u8 ((List.range 64).map fun j => (Lib.deBruijn64tab.getD j 0 : Int)) := by kernel_rfl

theorem cell_drop {W : World} {n : String} {g : Nat} {cs : Array Value} (hg : Tryd.prog.globalNamed n = some g) (hv : W.var? Tryd.prog n = some cs) {k : Nat} {v : Value} (h : cs.toList[k]? = some v) : W.cell? ⟨g, k, none⟩ = some v := by
  have := World.var?_cell hg hv k
  rw [this, ← Array.getElem?_toList, h]

theorem tab_of_laid {W : World} (h : laidMet Tryd.prog LL W) : TabT W := by
  obtain ⟨ps, ⟨g, t, cs, fuel, p, q, hg, ht, hv, hd, _, _⟩, _, _⟩ := h
  have hg' := hg
  obtain rfl := Option.some.inj ((show Tryd.prog.globalNamed "math/bits.deBruijn64tab" = some 0 by kernel_rfl).symm.trans hg)
  obtain rfl := Option.some.inj ((show (Tryd.prog.globals[0]?).map (·.type) = some 59 by kernel_rfl).symm.trans ht)
  have c8 : Tryd.prog.cellsOf 5 = 1 := by kernel_rfl
  have c64 : Tryd.prog.cellsOf 59 = 64 := by kernel_rfl
  rw [Laid.tabIs] at hd
  have hcs := cells_of_tab Tryd.underlying59 Tryd.underlying5 c8 c64 hd
  intro j hj
  refine cell_drop hg' hv ?_
  rw [hcs]
  simp [hj]

theorem std_of_laid {W : World} (h : laidMetH Tryd.prog LL W) : TabT W := tab_of_laid h

/-- a world in which it lies so. -/
noncomputable def laidWorld (os : Os) : World := (World.holding Tryd.prog os ⟨#[], #[], []⟩).layVars Tryd.prog LL
theorem laidWorld_os (os : Os) : (laidWorld os).os = os := World.layVars_os _ _ _
set_option maxRecDepth 100000 in
theorem laidWorld_plain (os : Os) : laidMet Tryd.prog LL (laidWorld os) :=
  laidMet_layVars (w0 := World.holding Tryd.prog os ⟨#[], #[], []⟩) (LL.map (·.1)) [] (by rfl) (by kernel_rfl) (by kernel_rfl) LaidIn.none
set_option maxRecDepth 100000 in
theorem laidWorld_met (os : Os) (args : Array Value) : laidMetH Tryd.prog LL ((laidWorld os).forCall (fun _ _ => 0) ⟨#[], args, []⟩).memory :=
  laidMetH_of_parts ((laidWorld_plain os).of_heap (by simp [World.memory, World.forCall, Input.heap])) (by kernel_rfl)
set_option maxRecDepth 100000 in
theorem laidWorld_shaped (os : Os) (args : Array Value) : ((laidWorld os).forCall (fun _ _ => 0) ⟨#[], args, []⟩).Shaped Tryd.prog :=
  World.shaped_of_ZipB (by kernel_rfl) (by kernel_rfl)

end Go.Proofs.YtdenmbigdklhkaaDoor
