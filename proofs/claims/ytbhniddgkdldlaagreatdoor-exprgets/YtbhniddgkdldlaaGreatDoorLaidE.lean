/- What the rows list of package-level variables (errors.errorType, op.names, op.numbers) gives a walk, that bytealg.MaxLen holds some number, and a world in which it lies so. Plain lemmas, no condition. -/
import Derived.Test.YtbhniddgkdldlaaGreatDoorOpA
import Derived.Test.YtbhniddgkdldlaaGreatDoorAsS
import Derived.Test.YtbhniddgkdldlaaGreatDoorArgs
import Derived.Lay
import Derived.LaidLaws
import Derived.LaidHandle
import Derived.ChangeArms
import Derived.OpenShut
import Derived.HandedShaped
set_option linter.unusedVariables false
set_option linter.unusedSimpArgs false
namespace Go.Proofs.YtbhniddgkdldlaaGreatDoor
open Go.RowKit Go.Lib

def LL : List (String × DataW Unit) := [("errors.errorType", Rows.laid_errors_errorType), ("grommet/op.names", Rows.laid_grommet_op_names), ("grommet/op.numbers", Rows.laid_grommet_op_numbers)]
def LP : List (String × DataW Unit) := [("grommet/op.names", Rows.laid_grommet_op_names), ("grommet/op.numbers", Rows.laid_grommet_op_numbers)]
theorem Laid.et : Tryz.prog.globalNamed "errors.errorType" = some 0 := by kernel_rfl
theorem Laid.rt : (Tryz.prog.cutTypes.find? (·.1 == "internal/reflectlite.rtype")).map (·.2) = some 128 := by kernel_rfl
theorem Laid.oneRow : ((List.range 210).filter fun t => Tryz.prog.rowNamed t [101, 114, 114, 111, 114]) = [28] := by kernel_rfl
theorem Laid.size : Tryz.prog.types.size = 210 := by kernel_rfl
theorem Laid.hand : typeHandle Tryz.prog 28 = .pointer (some ⟨4, 28, none⟩) := by kernel_rfl
theorem et_of_handles {W : World} {l : List (String × DataW Unit)} (h : handlesMet Tryz.prog l W) (hm : ("errors.errorType", Rows.laid_errors_errorType) ∈ l) : Et W := by
  obtain ⟨name, u, ty, e1, e2, e3, e4, e5⟩ := h _ hm
  have en : name = [101, 114, 114, 111, 114] := (Option.some.inj e1).symm
  subst en
  obtain rfl := Option.some.inj (Laid.rt.symm.trans e2)
  have hm : ty ∈ (List.range 210).filter fun t => Tryz.prog.rowNamed t [101, 114, 114, 111, 114] := List.mem_filter.2 ⟨List.mem_range.2 (by rw [← Laid.size]; exact e3), e4⟩
  rw [Laid.oneRow] at hm
  obtain rfl := List.mem_singleton.1 hm
  rw [Laid.hand] at e5
  unfold Et
  simpa using World.var?_cell Laid.et e5 0

/-- a table of texts, as a datum. -/
def strData (ls : List (List UInt8)) : DataW Unit := .agg (ls.map fun l => .lit (.string l))
theorem Laid.namesIs : (Rows.laid_grommet_op_names : DataW Unit) = strData (Opx.tab.take 67) := by kernel_rfl
theorem Laid.numbersIs : (Rows.laid_grommet_op_numbers : DataW Unit) = strData (Opx.tab.drop 69) := by kernel_rfl

/-- an array of texts that reads as the table holds the table's texts, cell for cell. -/
theorem cells_of_strs {enc : TypeId × Value → Unit} {P : Program} {w : World} {base : Nat} {sp : Nat → Bool} {held : Bool} {fuel : Nat} {t e : TypeId} {n : Nat} {cs : List Value} {ls : List (List UInt8)} {p : List MemPlace}
    (ht : P.underlying t = some (.array n e)) (he : P.underlying e = some .string) (hce : P.cellsOf e = 1)
    (h : DataW.trod enc P w base sp held fuel t cs = some (strData ls, p)) (i : Nat) (hi : i < ls.length) : cs[i]? = some (.string ⟨(ls.getD i []).toArray⟩) := by
  obtain ⟨xs, m, rfl, hx, hl, hn, hall⟩ := DataW.trod_array ht h
  have hxs : xs.map (·.1) = ls.map fun l => (DataW.lit (.string l) : DataW Unit) := by
    have := congrArg Prod.fst hx
    simp [strData] at this
    exact this.symm
  have hlen : xs.length = ls.length := by simpa using congrArg List.length hxs
  have h1 := hall i (by omega)
  rw [hce, Nat.mul_one] at h1
  have hxi : xs[i]?.map (·.1) = some (.lit (.string ls[i])) := by
    rw [← List.getElem?_map, hxs]; simp [hi]
  rw [← h1] at hxi
  obtain ⟨y, hy, hy2⟩ := Option.map_eq_some_iff.1 hxi
  cases m with
  | zero => simp [DataW.trod] at hy
  | succ m =>
    unfold DataW.trod at hy
    rw [he] at hy
    cases hc : cs[i]? with
    | none =>
      rw [List.getElem?_eq_none_iff] at hc
      rw [List.drop_eq_nil_of_le hc] at hy
      simp at hy
    | some v =>
      obtain ⟨hlt, hv⟩ := List.getElem?_eq_some_iff.1 hc
      have ec : (cs.drop i).take 1 = [v] := by
        rw [List.drop_eq_getElem_cons hlt, hv]; rfl
      rw [ec] at hy
      cases v <;> simp at hy
      rename_i s
      obtain ⟨_, rfl⟩ := hy
      injection hy2 with hy2
      injection hy2 with hy2
      rw [List.getD_eq_getElem?_getD, List.getElem?_eq_getElem hi]
      simp only [Option.getD_some, ← hy2]

theorem cell_drop {W : World} {n : String} {g : Nat} {cs : Array Value} (hg : Tryz.prog.globalNamed n = some g) (hv : W.var? Tryz.prog n = some cs) {k : Nat} {v : Value} (h : cs.toList[k]? = some v) : W.cell? ⟨g, k, none⟩ = some v := by
  have := World.var?_cell hg hv k
  rw [this, ← Array.getElem?_toList, h]

theorem some_max {W : World} (h : W.ShapedOpen Tryz.prog) : ∃ m, W.cell? ⟨3, 0, none⟩ = some (.int .i64 m) :=
  cell_of_shapedOpen_int (zero := #[.int .i64 0]) (t := 3) h (of_decide_eq_true (by kernel_rfl)) (by kernel_rfl) rfl (by kernel_rfl) (by kernel_rfl) Tryz.underlying3

theorem nam_of_laid {W : World} (h : laidMet Tryz.prog LP W) (hs : W.ShapedOpen Tryz.prog) : Nam W := by
  obtain ⟨ps, ⟨g, t, cs, fuel, p, q, hg, ht, hv, hd, hr, _⟩, _, _⟩ := h
  obtain ⟨g2, t2, cs2, fuel2, p2, q2, hg2, ht2, hv2, hd2, _, _⟩ := hr
  have hg' := hg
  have hg2' := hg2
  obtain rfl := Option.some.inj ((show Tryz.prog.globalNamed "grommet/op.names" = some 1 by kernel_rfl).symm.trans hg)
  obtain rfl := Option.some.inj ((show (Tryz.prog.globals[1]?).map (·.type) = some 157 by kernel_rfl).symm.trans ht)
  obtain rfl := Option.some.inj ((show Tryz.prog.globalNamed "grommet/op.numbers" = some 2 by kernel_rfl).symm.trans hg2)
  obtain rfl := Option.some.inj ((show (Tryz.prog.globals[2]?).map (·.type) = some 158 by kernel_rfl).symm.trans ht2)
  have c1 : Tryz.prog.cellsOf 9 = 1 := by kernel_rfl
  rw [Laid.namesIs] at hd
  rw [Laid.numbersIs] at hd2
  refine ⟨fun j hj => cell_drop hg' hv ?_, fun j hj => cell_drop hg2' hv2 ?_, some_max hs⟩
  · rw [cells_of_strs Tryz.underlying157 Tryz.underlying9 c1 hd j (by rw [List.length_take, show Opx.tab.length = 174 by rfl]; omega)]
    simp [Opx.nmB, Opx.nm, hj]
  · rw [cells_of_strs Tryz.underlying158 Tryz.underlying9 c1 hd2 j (by rw [List.length_drop, show Opx.tab.length = 174 by rfl]; omega)]
    have e : ((j : Int) + 69).toNat = 69 + j := by omega
    simp only [Opx.nmB, Opx.nm, e]
    rw [if_pos (by omega)]
    simp [List.getD_eq_getElem?_getD]

/-- a world in which it lies so. -/
noncomputable def laidBase (os : Os) : World :=
  let w0 := World.holding Tryz.prog os ⟨#[], #[], []⟩
  { w0 with heap := w0.heap.modify 0 fun
      | .cells _ t frozen => .cells #[.iface 128 (.agg #[.pointer (some ⟨4, 28, none⟩)])] t frozen
      | o => o }
noncomputable def laidWorld (os : Os) : World := (laidBase os).layVars Tryz.prog LP
theorem laidWorld_os (os : Os) : (laidWorld os).os = os := World.layVars_os _ _ _
set_option maxRecDepth 100000 in
theorem laidWorld_plain (os : Os) : laidMet Tryz.prog LP (laidWorld os) :=
  laidMet_layVars (w0 := laidBase os) (LP.map (·.1)) [] (by rfl) (by kernel_rfl) (by kernel_rfl) LaidIn.none
set_option maxRecDepth 100000 in
theorem laidWorld_met (os : Os) (args : Array Value) : laidMetH Tryz.prog LL ((laidWorld os).forCall (fun _ _ => 0) ⟨#[], args, []⟩).memory :=
  laidMetH_of_parts ((laidWorld_plain os).of_heap (by simp [World.memory, World.forCall, Input.heap])) (by kernel_rfl)
set_option maxRecDepth 100000 in
theorem laidWorld_shaped (os : Os) (args : Array Value) : ((laidWorld os).forCall (fun _ _ => 0) ⟨#[], args, []⟩).Shaped Tryz.prog :=
  World.shaped_of_ZipB (by kernel_rfl) (by kernel_rfl)

set_option maxRecDepth 100000 in
/-- the wrap that hands on both what is laid and the world's shape. -/
theorem handed_both {H : Type} {enc : TypeId × Value → H} {os : Os} {f : FuncId} {fn : Func} {s : ChangeSpec} {X : World → Array Value → Prop} (hX : ∀ (w w' : World) (args : Array Value), w.heap = w'.heap → X w args → X w' args)
    (own : ownKnob Tryz.checked.prog.godebug = none) (started : os.Started) (noInit : Tryz.checked.prog.inits.idxOf? f = none) (hfn : Tryz.checked.prog.funcs[f]? = some fn)
    (witness : ∃ (w : World) (tape : Tape) (i : Input), w.os = os ∧ (w.forCall tape i).Shaped Tryz.checked.prog ∧ i.vars = [] ∧ Input.okWide Tryz.checked.prog (w.forCall tape i) .any w.heap.size f i ∧
      ((s.pre enc Tryz.checked.prog fn [] false (w.forCall tape i).memory i.args ∧ X (w.forCall tape i).memory i.args) ∧ sizedMet enc Tryz.checked.prog fn (OpenSpec.ofChange s) false (w.forCall tape i).memory i.args) ∧ ({} : Assume).holds Tryz.checked.prog (lone (Frame.enter Tryz.checked.prog f i.args .normal) [] (w.forCall tape i)))
    (contract : ∀ (W : World) (base : Nat) (args : Array Value) (ds gs : List (DataW H)) (before : List MemPlace),
      (∀ (j : Nat) t v, fn.params[j]? = some t → args[j]? = some v → Value.okWide Tryz.checked.prog W .any base t v) →
      DataW.Whole enc Tryz.checked.prog fn.params.toList s.vars false W args.toList ds gs before → X W args → W.ShapedOpen Tryz.checked.prog →
      Calls Tryz.checked.prog f args W fun e W' => ∃ v, e = .returned v ∧ s.post enc Tryz.checked.prog fn false true false false W args v W') :
    ReturnsInHanded {} Tryz.checked os f .any (fun w args => (s.pre enc Tryz.checked.prog fn [] false w args ∧ X w args) ∧ sizedMet enc Tryz.checked.prog fn (OpenSpec.ofChange s) false w args) (s.post enc Tryz.checked.prog fn false true false false) := by
  refine returnsInHanded_of_calls own started noInit witness ?_
  intro w tape i _ hsh _ hok hpre _
  have hval := hok.2.2.2
  obtain ⟨fn', hfn', _, _, _, _, hv⟩ := hval
  obtain rfl : fn' = fn := Option.some.inj (hfn'.symm.trans hfn)
  obtain ⟨⟨⟨ds, gs, before, hw, _⟩, hx⟩, _⟩ := hpre
  have hc := contract (w.forCall tape i) w.heap.size i.args ds gs before hv (DataW.Whole.of_heap (by rfl) hw) (hX _ _ _ (by rfl) hx) hsh
  exact hc.mono fun e W' ⟨v, he, hp⟩ => by subst he; exact ChangeSpec.post_blind hp

theorem std_of_laid {W : World} (h : laidMetH Tryz.prog LL W) (hs : W.ShapedOpen Tryz.prog) : Nam W ∧ Et W := by
  have h' : laidMet Tryz.prog LP W ∧ handlesMet Tryz.prog [("errors.errorType", Rows.laid_errors_errorType)] W := h
  exact ⟨nam_of_laid h'.1 hs, et_of_handles h'.2 (List.mem_singleton.2 rfl)⟩
end Go.Proofs.YtbhniddgkdldlaaGreatDoor
