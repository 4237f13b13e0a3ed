/- A slice of instructions as rows of cells, and a row of the call's own that reads as instructions. Plain lemmas, no condition. -/
import Derived.Test.YtbhniddgkdldlaaGreatDoorTreeCp0
set_option linter.unusedVariables false
set_option linter.unusedSimpArgs false
namespace Go.Proofs.YtbhniddgkdldlaaGreatDoor
open Go.RowKit Trx

theorem RdS.rows {w : World} {B : Nat} {A : Option Addr} {f : Fo} (h : RdS w B A f) : ∃ ins : List In, ins.map (·.n) = nds f ∧ RowsAt w B A 9 (ins.map In.cells) ∧ ∀ x ∈ ins, NdOk w B x.n x.p := by
  obtain ⟨ins, hl, hq⟩ := list_of (α := In) (Q := fun i x => (nds f)[i]? = some x.n ∧ ∃ b o, A = some ⟨b, o, none⟩ ∧ NdAt w B x.n x.p b (o + i * 9)) (len f) (fun i hi => by
    obtain ⟨b, o, n, p, hA, hn, hat⟩ := h.at_ hi
    exact ⟨⟨n, p⟩, hn, b, o, hA, hat⟩)
  have hmap : ins.map (·.n) = nds f := by
    apply List.ext_getElem?
    intro i
    rw [List.getElem?_map]
    cases hi : ins[i]? with
    | none =>
      have := List.getElem?_eq_none_iff.1 hi
      rw [List.getElem?_eq_none (by unfold len at hl; omega)]
      rfl
    | some x => rw [(hq i x hi).1]; rfl
  refine ⟨ins, hmap, fun hne => ?_, fun x hx => ?_⟩
  · obtain ⟨y, hy⟩ : ∃ y, ins[0]? = some y := by
      cases ins with
      | nil => exact absurd rfl hne
      | cons y _ => exact ⟨y, rfl⟩
    obtain ⟨-, b, o, hA, hat⟩ := hq 0 y hy
    refine ⟨b, o, hA, hat.lt, fun i r hi j hj => ?_⟩
    rw [List.getElem?_map] at hi
    obtain ⟨x, hx, rfl⟩ := Option.map_eq_some_iff.1 hi
    obtain ⟨-, b', o', hA', hat'⟩ := hq i x hx
    rw [hA] at hA'
    injection hA' with e
    injection e with e1 e2
    subst e1 e2
    rw [hat'.cells j hj]
    simp [In.cells]
  · obtain ⟨i, hi⟩ := List.getElem?_of_mem hx
    obtain ⟨-, _, _, -, hat⟩ := hq i x hi
    exact hat.ok
theorem RdS.of_own {lo : Nat} {w0 w : World} {v : Value} {ins : List In} (ho : OwnK lo w0 w 49 9 v (ins.map In.cells)) (hn : ∀ x ∈ ins, NdOk w w.heap.size x.n x.p) :
    ∃ A' c', v = .slice A' (len (ofN (ins.map (·.n)))) c' ∧ len (ofN (ins.map (·.n))) ≤ c' ∧ c' ≤ maxLen ∧ RdS w w.heap.size A' (ofN (ins.map (·.n))) := by
  obtain ⟨A', c', hv, hc1, hc2, hrow⟩ := ho.formB (by omega)
  rw [List.length_map] at hv hc1
  have hl : len (ofN (ins.map (·.n))) = ins.length := by rw [len_ofN, List.length_map]
  refine ⟨A', c', by rw [hl]; exact hv, by rw [hl]; exact hc1, hc2, fun hne => ?_⟩
  obtain ⟨g, hg, hA, h1, h2, hc⟩ := hrow (fun e => hne (by
    have := congrArg List.length e
    rw [List.length_map, List.length_nil] at this
    rw [List.eq_nil_of_length_eq_zero this]; rfl))
  refine ⟨g, 0, hA, RdF.mk fun i nd hi => ?_⟩
  rw [nds_ofN, List.getElem?_map] at hi
  obtain ⟨x, hx, rfl⟩ := Option.map_eq_some_iff.1 hi
  refine ⟨x.p, h2, fun q hq => ?_, hn x (List.mem_of_getElem? hx)⟩
  rw [Nat.zero_add, hc i x.cells (by rw [List.getElem?_map, hx]; rfl) q hq]
  simp
end Go.Proofs.YtbhniddgkdldlaaGreatDoor
