/- What the rows list of package-level variables (utf8's two tables, errors' errorType) gives a walk, and a world in which they lie so. Plain lemmas, no condition. -/
import Derived.Test.YtfefabeamcdihaaDoorSpots
import Derived.Test.YtfefabeamcdihaaDoorU8
import Derived.Test.YtfefabeamcdihaaDoorArgs
import Derived.Lay
import Derived.LaidLaws
import Derived.LaidHandle
import Derived.ChangeArms
import Derived.Lib.LaidTab
namespace Go.Proofs.YtfefabeamcdihaaDoor
open Go.RowKit Go.Lib

def LL : List (String × DataW Unit) := [("unicode/utf8.acceptRanges", Rows.laid_unicode_utf8_acceptRanges), ("errors.errorType", Rows.laid_errors_errorType), ("unicode/utf8.first", Rows.laid_unicode_utf8_first)]
def LP : List (String × DataW Unit) := [("unicode/utf8.acceptRanges", Rows.laid_unicode_utf8_acceptRanges), ("unicode/utf8.first", Rows.laid_unicode_utf8_first)]

theorem Laid.et : Tryd.prog.globalNamed "errors.errorType" = some 0 := by kernel_rfl
theorem Laid.rt : (Tryd.prog.cutTypes.find? (·.1 == "internal/reflectlite.rtype")).map (·.2) = some 76 := by kernel_rfl
theorem Laid.oneRow : ((List.range 120).filter fun t => Tryd.prog.rowNamed t [101, 114, 114, 111, 114]) = [26] := by kernel_rfl
theorem Laid.size : Tryd.prog.types.size = 120 := by kernel_rfl
theorem Laid.hand : typeHandle Tryd.prog 26 = .pointer (some ⟨3, 26, none⟩) := by kernel_rfl
theorem et_of_handles {W : World} {l : List (String × DataW Unit)} (h : handlesMet Tryd.prog l W) (hm : ("errors.errorType", Rows.laid_errors_errorType) ∈ l) : Et W := by
  obtain ⟨name, u, ty, e1, e2, e3, e4, e5⟩ := h _ hm
  have en : name = [101, 114, 114, 111, 114] := (Option.some.inj e1).symm
  subst en
  obtain rfl := Option.some.inj (Laid.rt.symm.trans e2)
  have hm : ty ∈ (List.range 120).filter fun t => Tryd.prog.rowNamed t [101, 114, 114, 111, 114] := List.mem_filter.2 ⟨List.mem_range.2 (by rw [← Laid.size]; exact e3), e4⟩
  rw [Laid.oneRow] at hm
  obtain rfl := List.mem_singleton.1 hm
  rw [Laid.hand] at e5
  unfold Et
  simpa using World.var?_cell Laid.et e5 0

theorem Laid.firstIs : Rows.laid_unicode_utf8_first = tabData .u8 ((List.range 256).map fun c => (firstT c : Int)) := by kernel_rfl
theorem Laid.accIs : (Rows.laid_unicode_utf8_acceptRanges : DataW Unit) = .agg ((List.range 16).map fun i => .agg [.lit (.int .u8 (accLo i : Nat)), .lit (.int .u8 (accHi i : Nat))]) := by kernel_rfl

theorem cell_drop {W : World} {n : String} {g : Nat} {cs : Array Value} (hg : Tryd.prog.globalNamed n = some g) (hv : W.var? Tryd.prog n = some cs) {k : Nat} {v : Value} (h : cs.toList[k]? = some v) : W.cell? ⟨g, k, none⟩ = some v := by
  have := World.var?_cell hg hv k
  rw [this, ← Array.getElem?_toList, h]

theorem u8t_of_laid {W : World} (h : laidMet Tryd.prog LP W) : U8T W := by
  obtain ⟨ps, ⟨g, t, cs, fuel, p, q, hg, ht, hv, hd, ⟨g2, t2, cs2, fuel2, p2, q2, hg2, ht2, hv2, hd2, _, _⟩, _⟩, _, _⟩ := h
  have hg' := hg
  have hg2' := hg2
  obtain rfl := Option.some.inj ((show Tryd.prog.globalNamed "unicode/utf8.acceptRanges" = some 2 by kernel_rfl).symm.trans hg)
  obtain rfl := Option.some.inj ((show (Tryd.prog.globals[2]?).map (·.type) = some 74 by kernel_rfl).symm.trans ht)
  obtain rfl := Option.some.inj ((show Tryd.prog.globalNamed "unicode/utf8.first" = some 1 by kernel_rfl).symm.trans hg2)
  obtain rfl := Option.some.inj ((show (Tryd.prog.globals[1]?).map (·.type) = some 70 by kernel_rfl).symm.trans ht2)
  have c8 : Tryd.prog.cellsOf 5 = 1 := by kernel_rfl
  have c256 : Tryd.prog.cellsOf 70 = 256 := by kernel_rfl
  have c2 : Tryd.prog.cellsOf 73 = 2 := by kernel_rfl
  rw [Laid.firstIs] at hd2
  rw [Laid.accIs] at hd
  have hcs2 := cells_of_tab Tryd.underlying70 Tryd.underlying5 c8 c256 hd2
  have hacc : ∀ i, i < 16 → cs.toList[2 * i]? = some (.int .u8 (accLo i : Nat)) ∧ cs.toList[2 * i + 1]? = some (.int .u8 (accHi i : Nat)) := by
    intro i hi
    obtain ⟨xs, m, _, ex, _, hl, hel⟩ := DataW.trod_array Tryd.underlying74 hd
    have hE := hel i hi
    rw [c2, List.getElem?_eq_getElem (by omega)] at hE
    have e3 : (xs.map (·.1)) = ((List.range 16).map fun i => (.agg [.lit (.int .u8 (accLo i : Nat)), .lit (.int .u8 (accHi i : Nat))] : DataW Unit)) := (DataW.agg.inj (Prod.mk.inj ex).1).symm
    have e4 : (xs[i]'(by omega)).1 = .agg [.lit (.int .u8 (accLo i : Nat)), .lit (.int .u8 (accHi i : Nat))] := by
      have := congrArg (·[i]?) e3
      simp only [List.getElem?_map, List.getElem?_range hi, Option.map_some] at this
      rw [List.getElem?_eq_getElem (by omega)] at this
      simpa using this
    obtain ⟨ys, n, _, hy, _, hyl, hall⟩ := DataW.trod_struct Tryd.underlying73 hE
    have hyl' : ys.length = 2 := hyl
    have h0 := hall 0 { name := "lo", type := 5, offset := 0, embedded := false, tag := "", pkgPath := "unicode/utf8", byteOffset := 0 } rfl
    have h1 := hall 1 { name := "hi", type := 5, offset := 1, embedded := false, tag := "", pkgPath := "unicode/utf8", byteOffset := 1 } rfl
    dsimp only at h0 h1
    rw [List.getElem?_eq_getElem (by omega)] at h0 h1
    simp only [c8] at h0 h1
    obtain ⟨z0, k0, d0, _⟩ := DataW.trod_int Tryd.underlying5 h0
    obtain ⟨z1, k1, d1, _⟩ := DataW.trod_int Tryd.underlying5 h1
    have hyy : ys.map (·.1) = [.lit (.int .u8 (accLo i : Nat)), .lit (.int .u8 (accHi i : Nat))] := by
      have := congrArg Prod.fst hy
      rw [e4] at this
      exact (DataW.agg.inj this).symm
    have y0 := congrArg (·[0]?) hyy
    have y1 := congrArg (·[1]?) hyy
    simp only [List.getElem?_map] at y0 y1
    rw [List.getElem?_eq_getElem (by omega)] at y0 y1
    simp only [Option.map_some, d0, d1] at y0 y1
    simp at y0 y1
    subst y0 y1
    have k0' := congrArg (·[0]?) k0
    have k1' := congrArg (·[0]?) k1
    simp [List.getElem?_take, List.getElem?_drop] at k0' k1'
    constructor
    · simpa [Nat.mul_comm] using k0'
    · simpa [Nat.mul_comm] using k1'
  refine ⟨fun c hc => cell_drop hg2' hv2 ?_, fun i hi => cell_drop hg' hv (hacc i hi).1, fun i hi => cell_drop hg' hv (hacc i hi).2⟩
  rw [hcs2]
  simp [hc]

theorem std_of_laid {W : World} (h : laidMetH Tryd.prog LL W) : Et W ∧ U8T W := by
  have h' : laidMet Tryd.prog LP W ∧ handlesMet Tryd.prog [("errors.errorType", Rows.laid_errors_errorType)] W := h
  exact ⟨et_of_handles h'.2 (List.mem_singleton.2 rfl), u8t_of_laid h'.1⟩

/-- a world in which they lie so. -/
noncomputable def laidBase (os : Os) : World :=
  let w0 := World.holding Tryd.prog os ⟨#[], #[], []⟩
  { w0 with heap := w0.heap.modify 0 fun
      | .cells _ t frozen => .cells #[.iface 76 (.agg #[.pointer (some ⟨3, 26, none⟩)])] t frozen
      | o => o }
noncomputable def laidWorld (os : Os) : World := (laidBase os).layVars Tryd.prog LP
theorem laidWorld_os (os : Os) : (laidWorld os).os = os := World.layVars_os _ _ _
set_option maxRecDepth 100000 in
theorem laidWorld_plain (os : Os) : laidMet Tryd.prog LP (laidWorld os) :=
  laidMet_layVars (w0 := laidBase os) (LP.map (·.1)) [] (by rfl) (by kernel_rfl) (by kernel_rfl) LaidIn.none
set_option maxRecDepth 100000 in
theorem laidWorld_met (os : Os) (args : Array Value) : laidMetH Tryd.prog LL ((laidWorld os).forCall (fun _ _ => 0) ⟨#[], args, []⟩).memory :=
  laidMetH_of_parts ((laidWorld_plain os).of_heap (by simp [World.memory, World.forCall, Input.heap])) (by kernel_rfl)
set_option maxRecDepth 100000 in
theorem laidWorld_shaped (os : Os) (args : Array Value) : ((laidWorld os).forCall (fun _ _ => 0) ⟨#[], args, []⟩).Shaped Tryd.prog :=
  World.shaped_of_ZipB (by kernel_rfl) (by kernel_rfl)

end Go.Proofs.YtfefabeamcdihaaDoor
