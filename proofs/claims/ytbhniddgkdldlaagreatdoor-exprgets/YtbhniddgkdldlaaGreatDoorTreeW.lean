/- How arguments with depth are opened together with what they weigh: slices of structs that read as rows of cells, and modules. Plain definitions and lemmas, no condition. -/
import Derived.Test.YtbhniddgkdldlaaGreatDoorTreeRd
set_option linter.unusedVariables false
set_option linter.unusedSimpArgs false
namespace Go.Proofs.YtbhniddgkdldlaaGreatDoor
open Go.RowKit Go.ChangeShapes Go.WideShapes Go.Deep Trx

/-- how many bytes one piece of memory takes at most. -/
def RB : Nat := 140737488351232
/-- what a datum weighs is within reach. -/
def Lw {H : Type} (P : Program) (t : TypeId) (d : DataW H) : Prop := ∀ y ∈ d.weights P t, y ≤ RB

section
variable {H : Type} {P : Program}
theorem weightsAll_mem {e : TypeId} {l : List (DataW H)} {d : DataW H} (h : d ∈ l) {y : Nat} (hy : y ∈ d.weights P e) : y ∈ DataW.weightsAll P e l := by
  induction l with
  | nil => cases h
  | cons a l ih =>
    rw [DataW.weightsAll, List.mem_append]
    rcases List.mem_cons.1 h with rfl | h
    · exact .inl hy
    · exact .inr (ih h)
theorem weightsEach_mem {ts : List TypeId} {l : List (DataW H)} {i : Nat} {t : TypeId} {d : DataW H} (ht : ts[i]? = some t) (hd : l[i]? = some d) {y : Nat} (hy : y ∈ d.weights P t) : y ∈ DataW.weightsEach P ts l := by
  induction ts generalizing l i with
  | nil => simp at ht
  | cons u ts ih =>
    cases l with
    | nil => simp at hd
    | cons a l =>
      rw [DataW.weightsEach, List.mem_append]
      cases i with
      | zero =>
        simp at ht hd
        subst ht hd
        exact .inl hy
      | succ i =>
        simp at ht hd
        exact .inr (ih ht hd)
end

/-- a slice whose elements are of k cells each reads as rows of cells. -/
def RowsAt (w : World) (B : Nat) (A : Option Addr) (k : Nat) (rs : List (List Value)) : Prop :=
  rs ≠ [] → ∃ b o, A = some ⟨b, o, none⟩ ∧ b < B ∧ ∀ i r, rs[i]? = some r → ∀ j, j < k → w.cell? ⟨b, o + i * k + j, none⟩ = r[j]?
section
variable {w w' : World} {B B' : Nat} {A : Option Addr} {k : Nat} {rs : List (List Value)}
theorem RowsAt.nil_ : RowsAt w B A k [] := fun h => absurd rfl h
theorem RowsAt.keep (hB : B ≤ B') (hk : ∀ b o, b < B → w'.cell? ⟨b, o, none⟩ = w.cell? ⟨b, o, none⟩) (h : RowsAt w B A k rs) : RowsAt w' B' A k rs := fun hne => by
  obtain ⟨b, o, e, hb, hc⟩ := h hne
  exact ⟨b, o, e, by omega, fun i r hi j hj => (hk _ _ hb).trans (hc i r hi j hj)⟩
theorem RowsAt.below (h : RowsAt w B A k rs) (hb : Below B w w') : RowsAt w' B A k rs := h.keep (Nat.le_refl _) fun b o hp => hb.cell (p := ⟨b, o, none⟩) hp
theorem RowsAt.more (h : RowsAt w B A k rs) (hB : B ≤ B') : RowsAt w B' A k rs := h.keep hB fun _ _ _ => rfl
theorem RowsAt.at_ (h : RowsAt w B A k rs) {i : Nat} {r : List Value} (hi : rs[i]? = some r) : ∃ b o, A = some ⟨b, o, none⟩ ∧ b < B ∧ ∀ j, j < k → w.cell? ⟨b, o + i * k + j, none⟩ = r[j]? := by
  obtain ⟨b, o, e, hb, hc⟩ := h (fun e => by rw [e] at hi; simp at hi)
  exact ⟨b, o, e, hb, hc i r hi⟩
end

section
variable {H : Type} {enc : TypeId × Value → H} {P : Program} {w : World} {base : Nat} {spare : Nat → Bool} {held : Bool}
/-- a struct, field by field. -/
theorem open_struct {e : TypeId} {fs : Array Field} {fuel : Nat} {cs : List Value} {x : DataW H × List MemPlace} (he : P.underlying e = some (.struct fs)) (h : DataW.trod enc P w base spare held fuel e cs = some x) (hw : Lw P e x.1) :
    ∃ n, fuel = n + 1 ∧ cs.length = P.cellsOf e ∧ ∀ (i : Nat) (f : Field), fs[i]? = some f → ∃ y, DataW.trod enc P w base spare held n f.type ((cs.drop f.offset).take (P.cellsOf f.type)) = some y ∧ Lw P f.type y.1 := by
  obtain ⟨ys, n, hn, hy, hlen, hyl, hf⟩ := DataW.trod_struct he h
  refine ⟨n, hn, hlen, fun i f hi => ?_⟩
  have hil : i < fs.size := (Array.getElem?_eq_some_iff.1 hi).1
  have hys : ys[i]? = some (ys[i]'(by omega)) := List.getElem?_eq_getElem (by omega)
  refine ⟨_, (hf i f hi).trans hys, fun y hyw => hw y ?_⟩
  subst hy
  show y ∈ DataW.weights P e (.agg (ys.map (·.1)))
  rw [DataW.weights, he]
  refine weightsEach_mem (i := i) (t := f.type) ?_ ?_ hyw
  · rw [List.getElem?_map, Array.getElem?_toList, hi]; rfl
  · rw [List.getElem?_map, hys]; rfl
/-- a slice of whatever is opened to cells. -/
theorem open_rows {α : Type} (cells : α → List Value) (ok : α → Prop) {t e : TypeId} (k : Nat) (ht : P.underlying t = some (.slice e)) (hk : P.cellsOf e = k) (hpos : 0 < k) {fuel : Nat} {cs : List Value} {x : DataW H × List MemPlace}
    (hopen : ∀ n cs x, n < fuel → DataW.trod enc P w base spare held n e cs = some x → Lw P e x.1 → ∃ a, cs = cells a ∧ ok a) (hlen : ∀ a, (cells a).length = k)
    (h : DataW.trod enc P w base spare held fuel t cs = some x) (hw : Lw P t x.1) :
    ∃ A l c, cs = [.slice A (List.length l) c] ∧ l.length ≤ c ∧ c ≤ maxLen ∧ l.length * P.bytesOf e ≤ RB ∧ RowsAt w w.heap.size A k (l.map cells) ∧ ∀ a ∈ l, ok a := by
  rcases DataW.trod_slice ht h with ⟨h0, -⟩ | ⟨a, l, cap, elems, rest, n, hn, hcs, hx, hb, hl, hm, hlen', hel, -, -⟩
  · exact ⟨none, [], 0, h0, Nat.le_refl _, Nat.zero_le _, by simp, RowsAt.nil_, by simp⟩
  · subst hx
    have hwt : DataW.weights P t (.slice (elems.map (·.1)) (rest.map (·.1))) = (l + rest.length) * P.bytesOf e :: (DataW.weightsAll P e (elems.map (·.1)) ++ DataW.weightsAll P e (rest.map (·.1))) := by
      rw [DataW.weights, ht]; simp [hlen']
    rw [hk] at hel
    have hone : ∀ i, i < l → ∃ v : α, (∀ j, j < k → w.cell? ((a.add (i * k)).add j) = (cells v)[j]?) ∧ ok v := by
      intro i hi
      have h1 := hel i hi
      have hei : elems[i]? = some (elems[i]'(by omega)) := List.getElem?_eq_getElem (by omega)
      rw [hei, Option.bind_eq_some_iff] at h1
      obtain ⟨cs', h2, h3⟩ := h1
      obtain ⟨v, rfl, hok⟩ := hopen n _ _ (by omega) h3 (fun y hy => hw y (by
        rw [hwt]
        refine List.mem_cons_of_mem _ (List.mem_append_left _ (weightsAll_mem ?_ hy))
        exact List.mem_map_of_mem (List.getElem_mem (by omega))))
      exact ⟨v, fun j hj => (cells_at h2).2 j hj, hok⟩
    obtain ⟨ns, hns, hq⟩ := list_of l hone
    refine ⟨some a, ns, cap, by rw [hcs, hns], by rw [hns]; exact hl, hm, ?_, fun hne => ?_, fun v hv => ?_⟩
    · have := hw ((l + rest.length) * P.bytesOf e) (by rw [hwt]; exact List.mem_cons_self)
      rw [hns]
      exact Nat.le_trans (Nat.mul_le_mul_right _ (Nat.le_add_right _ _)) this
    · have hpos' : 0 < ns.length := by
        rcases Nat.eq_zero_or_pos ns.length with h0 | h0
        · rw [List.eq_nil_of_length_eq_zero h0] at hne
          exact absurd rfl hne
        · exact h0
      obtain ⟨hc0, -⟩ := hq 0 _ (List.getElem?_eq_getElem hpos')
      obtain ⟨blk, off, spot⟩ := a
      have h00 := hc0 0 hpos
      have hsome : (cells ns[0])[0]? = some ((cells ns[0])[0]'(by rw [hlen]; exact hpos)) := List.getElem?_eq_getElem _
      have hs : spot = none := by
        have := (cell_block_lt (h00.trans hsome)).2
        simpa [Addr.add] using this
      have hbl : blk < w.heap.size := by
        have := (cell_block_lt (h00.trans hsome)).1
        simpa [Addr.add] using this
      subst hs
      refine ⟨blk, off, rfl, hbl, fun i r hi j hj => ?_⟩
      rw [List.getElem?_map] at hi
      obtain ⟨v, hv, rfl⟩ := Option.map_eq_some_iff.1 hi
      obtain ⟨hc, -⟩ := hq i v hv
      rw [← hc j hj, add_at, add_at]
    · obtain ⟨i, hi, hv'⟩ := List.getElem_of_mem hv
      exact (hq i v (by rw [List.getElem?_eq_getElem hi, hv'])).2
end
end Go.Proofs.YtbhniddgkdldlaaGreatDoor
