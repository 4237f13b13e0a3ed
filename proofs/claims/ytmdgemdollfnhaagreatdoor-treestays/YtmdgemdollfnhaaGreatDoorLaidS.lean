/- The row's step where the walk also leans on what its arguments weigh. Plain lemmas, no condition. -/
import Derived.Test.YtmdgemdollfnhaaGreatDoorLaidO
import Derived.Test.YtmdgemdollfnhaaGreatDoorTreeK
namespace Go.Proofs.YtmdgemdollfnhaaGreatDoor
open Go.RowKit Go.ChangeShapes Go.WideShapes

/-- of arguments that are within reach: each of them is. -/
theorem lw_of {H : Type} {P : Program} {ts us : List TypeId} {ds gs : List (DataW H)} (h : (DataW.weightsEach P (ts ++ us) (ds ++ gs)).all (· ≤ reachBytes) = true) {i : Nat} {t : TypeId} {d : DataW H} (ht : ts[i]? = some t) (hd : ds[i]? = some d) : Lw P t d := by
  intro y hy
  have hil : i < ts.length := by
    rcases Nat.lt_or_ge i ts.length with h1 | h1
    · exact h1
    · rw [List.getElem?_eq_none h1] at ht; cases ht
  have hil2 : i < ds.length := by
    rcases Nat.lt_or_ge i ds.length with h1 | h1
    · exact h1
    · rw [List.getElem?_eq_none h1] at hd; cases hd
  have hm := weightsEach_mem (P := P) (ts := ts ++ us) (l := ds ++ gs) (i := i) (by rw [List.getElem?_append_left hil]; exact ht) (by rw [List.getElem?_append_left hil2]; exact hd) hy
  have := List.all_eq_true.1 h y hm
  exact of_decide_eq_true this

set_option maxRecDepth 100000 in
/-- as 'handed_both', with the reading that the form's own reach speaks of. -/
theorem handed_sized {H : Type} {enc : TypeId × Value → H} {os : Os} {f : FuncId} {fn : Func} {s : ChangeSpec} {X : World → Array Value → Prop} (hX : ∀ (w w' : World) (args : Array Value), w.heap = w'.heap → X w args → X w' args)
    (own : ownKnob Tryz.checked.prog.godebug = none) (started : os.Started) (noInit : Tryz.checked.prog.inits.idxOf? f = none) (hfn : Tryz.checked.prog.funcs[f]? = some fn)
    (witness : ∃ (w : World) (tape : Tape) (i : Input), w.os = os ∧ (w.forCall tape i).Shaped Tryz.checked.prog ∧ i.vars = [] ∧ Input.okWide Tryz.checked.prog (w.forCall tape i) .any w.heap.size f i ∧
      ((s.pre enc Tryz.checked.prog fn [] false (w.forCall tape i).memory i.args ∧ X (w.forCall tape i).memory i.args) ∧ sizedMet enc Tryz.checked.prog fn (OpenSpec.ofChange s) false (w.forCall tape i).memory i.args) ∧ ({} : Assume).holds Tryz.checked.prog (lone (Frame.enter Tryz.checked.prog f i.args .normal) [] (w.forCall tape i)))
    (contract : ∀ (W : World) (base : Nat) (args : Array Value) (ds gs : List (DataW H)) (before : List MemPlace) (ds2 gs2 : List (DataW H)) (before2 : List MemPlace),
      (∀ (j : Nat) t v, fn.params[j]? = some t → args[j]? = some v → Value.okWide Tryz.checked.prog W .any base t v) →
      DataW.Whole enc Tryz.checked.prog fn.params.toList s.vars false W args.toList ds gs before → X W args → W.ShapedOpen Tryz.checked.prog →
      DataW.Whole enc Tryz.checked.prog fn.params.toList (OpenSpec.ofChange s).vars false W args.toList ds2 gs2 before2 → (DataW.weightsEach Tryz.checked.prog (fn.params.toList ++ (OpenSpec.ofChange s).bare.plain.varTypes Tryz.checked.prog) (ds2 ++ gs2)).all (· ≤ reachBytes) = true →
      Calls Tryz.checked.prog f args W fun e W' => ∃ v, e = .returned v ∧ s.post enc Tryz.checked.prog fn false true false false W args v W') :
    ReturnsInHanded {} Tryz.checked os f .any (fun w args => (s.pre enc Tryz.checked.prog fn [] false w args ∧ X w args) ∧ sizedMet enc Tryz.checked.prog fn (OpenSpec.ofChange s) false w args) (s.post enc Tryz.checked.prog fn false true false false) := by
  refine returnsInHanded_of_calls own started noInit witness ?_
  intro w tape i _ hsh _ hok hpre _
  have hval := hok.2.2.2
  obtain ⟨fn', hfn', _, _, _, _, hv⟩ := hval
  obtain rfl : fn' = fn := Option.some.inj (hfn'.symm.trans hfn)
  obtain ⟨⟨⟨ds, gs, before, hw, _⟩, hx⟩, ⟨_, ds2, gs2, before2, hw2, hall⟩⟩ := hpre
  have hc := contract (w.forCall tape i) w.heap.size i.args ds gs before ds2 gs2 before2 hv (DataW.Whole.of_heap (by rfl) hw) (hX _ _ _ (by rfl) hx) hsh (DataW.Whole.of_heap (by rfl) hw2) hall
  exact hc.mono fun e W' ⟨v, he, hp⟩ => by subst he; exact ChangeSpec.post_blind hp
end Go.Proofs.YtmdgemdollfnhaaGreatDoor
