/- A row of the call's own that grows by append: what is owned, and that nothing older than B has changed. Plain definitions and lemmas, no condition. -/
import Derived.Test.YthkdpcoacjgomaaDoorMem
import Derived.Maps.AppendAt
import Derived.OwnWalk
set_option linter.unusedVariables false
set_option linter.unusedSimpArgs false
namespace Go.Proofs.YthkdpcoacjgomaaDoor
open Go.RowKit

/-- v is a slice of the call's own (blocks from B on), of element type e (one cell each), holding xs; below B the world is as w0 was. -/
structure Own (B : Nat) (w0 w : World) (e : TypeId) (v : Value) (xs : List Value) : Prop where
  row : w.ownsRow B e 1 v xs.length xs
  below : Below B w0 w
  le : B ≤ w.heap.size

/-- one cell an element; of so many bytes. -/
def Elem (P : Program) (e : TypeId) (bytes : Nat) : Prop := ∃ i z, P.info? e = some i ∧ i.zero = some z ∧ i.size = 1 ∧ i.bytes = bytes ∧ z.cells.size = 1
theorem Elem.mk_ {P : Program} {e : TypeId} {z : Value} {bytes : Nat} (h : (P.info? e).map (fun i => (i.zero, i.size, i.bytes)) = some (some z, 1, bytes)) (hz : z.cells.size = 1) : Elem P e bytes := by
  obtain ⟨i, h1, h2, h3, h4⟩ := info_parts h
  exact ⟨i, z, h1, h2, h3, h4, hz⟩

section
variable {B : Nat} {w0 w w' : World} {e : TypeId} {v : Value} {xs : List Value}
theorem Own.nil_ (w0 w : World) (e : TypeId) (hb : Below B w0 w) (hB : B ≤ w.heap.size) : Own B w0 w e (.slice none 0 0) [] :=
  ⟨World.ownsRow_nil _ _ _ _, hb, hB⟩
theorem Own.drewN (h : Own B w0 w e v xs) (n : Nat) : Own B w0 (w.drewN n) e v xs := ⟨h.row, ⟨h.below.os, h.below.tape, h.below.output, h.below.size, h.below.block⟩, h.le⟩
theorem Own.form (h : Own B w0 w e v xs) : ∃ A c, v = .slice A xs.length c ∧ xs.length ≤ c ∧ c ≤ maxLen ∧ Sl w w.heap.size A xs := by
  rcases h.row.2 with ⟨rfl, hn⟩ | ⟨g, cap, cur, rfl, hg, hcur, hle, hm, hsz, htk⟩
  · rw [hn]
    exact ⟨none, 0, rfl, Nat.le_refl _, Nat.zero_le _, fun hne => absurd (List.eq_nil_of_length_eq_zero hn) hne⟩
  · refine ⟨_, cap, rfl, hle, hm, fun hne => ⟨g, 0, rfl, ?_, fun i hi => ?_⟩⟩
    · rcases Nat.lt_or_ge g w.heap.size with h1 | h1
      · exact h1
      · rw [Array.getElem?_eq_none h1] at hcur; cases hcur
    · rw [Nat.zero_add]
      exact h.row.cellAt i (by omega)
theorem Own.bytes {bs : List UInt8} (h : Own B w0 w e v (u8s bs)) : ∃ A c, v = .slice A bs.length c ∧ bs.length ≤ c ∧ c ≤ maxLen ∧ Sl w w.heap.size A (u8s bs) := by
  simpa using h.form
theorem Own.later (h : Own B w0 w e v xs) (hb : Below w.heap.size w w') : Own B w0 w' e v xs := by
  refine ⟨?_, h.below.trans (hb.mono h.le), Nat.le_trans h.le hb.size⟩
  refine ⟨h.row.1, ?_⟩
  rcases h.row.2 with ⟨rfl, hn⟩ | ⟨g, cap, cur, rfl, hg, hcur, hrest⟩
  · exact .inl ⟨rfl, hn⟩
  · refine .inr ⟨g, cap, cur, rfl, hg, ?_, hrest⟩
    have hlt : g < w.heap.size := by
      rcases Nat.lt_or_ge g w.heap.size with h1 | h1
      · exact h1
      · rw [Array.getElem?_eq_none h1] at hcur; cases hcur
    rw [hb.block g hlt]; exact hcur
theorem Own.lit (w : World) (cs : Array Value) (e : TypeId) (hm : cs.size ≤ maxLen) : Own w.heap.size w (w.alloc (.cells cs e)) e (.slice (some ⟨w.heap.size, 0, none⟩) cs.size cs.size) cs.toList := by
  refine ⟨?_, (Below.refl _ _).alloc (Nat.le_refl _) _, by simp⟩
  have := World.ownsRow_lit (base := w.heap.size) (e := e) (size := 1) w cs cs.size (Nat.le_refl _) hm (by simp)
  simpa using this
theorem Own.empty (w : World) (e : TypeId) : Own w.heap.size w (w.alloc (.cells #[] e)) e (.slice (some ⟨w.heap.size, 0, none⟩) 0 0) [] := Own.lit w #[] e (Nat.zero_le _)
/-- a row of the call's own that is not empty: where it lies, and a store into it. -/
theorem Own.at_ (h : Own B w0 w e v xs) (hne : 0 < xs.length) : ∃ g c, v = .slice (some ⟨g, 0, none⟩) xs.length c ∧ B ≤ g ∧ g < w.heap.size ∧ xs.length ≤ c ∧ c ≤ maxLen ∧
    (∀ j, j < xs.length → w.cell? ⟨g, j, none⟩ = xs[j]?) ∧ (∀ j, w.frozen? ⟨g, j, none⟩ = false) := by
  have hrow := h.row
  rcases h.row.2 with ⟨_, hn⟩ | ⟨g, cap, cur, rfl, hg, hcur, hle, hm, hsz, htk⟩
  · omega
  · refine ⟨g, cap, rfl, hg, ?_, hle, hm, fun j hj => hrow.cellAt j (by omega), fun j => hrow.frozenAt j⟩
    rcases Nat.lt_or_ge g w.heap.size with h1 | h1
    · exact h1
    · rw [Array.getElem?_eq_none h1] at hcur; cases hcur
theorem Own.store {g c : Nat} (h : Own B w0 w e (.slice (some ⟨g, 0, none⟩) xs.length c) xs) (hg : B ≤ g) (j : Nat) (u : Value) :
    Own B w0 (w.setCell ⟨g, j, none⟩ u) e (.slice (some ⟨g, 0, none⟩) xs.length c) (xs.set j u) := by
  have hs := h.row.stored j u
  refine ⟨by simpa using hs.1, h.below.setCell hg u, by have := h.le; simpa [World.setCell] using this⟩
end

section
variable {P : Program}
theorem run_append_nothing (w : World) (base : Nat) (t ty e : TypeId) (i : TypeInfo) (size : Nat) (ht : P.underlying t = some (.slice e)) (hi : P.info? e = some i)
    (v : Value) (n : Nat) (xs : List Value) (hown : w.ownsRow base e size v n xs) (c : Nat) : (Builtin.append_ #[t, t] ty #[v, .slice none 0 c]).run P w = .ok v w := by
  rcases hown.2 with ⟨rfl, rfl⟩ | ⟨g, cap, cur, rfl, _, _, hnc, _⟩
  · simp [Builtin.append_, run_underlying ht, sizeOf, typeInfo, hi, Builtin.lenOf, Builtin.firstCells]
  · simp [Builtin.append_, run_underlying ht, sizeOf, typeInfo, hi, Builtin.lenOf, Builtin.firstCells, hnc, storeCells]

/-- 'v = append(v, xs...)', v a row of the call's own, xs whatever reads as a list. -/
theorem wpList_cat {ops : Array Oper} {rest : List Oper} {o : Oper} {a : Act} {Q : Exit → Act → World → Prop} (hgd : o.guard = none) (s x : Operand) (t : TypeId)
    (ho : o.op = .call { callee := .builtin .append, args := #[s, x], argTypes := #[t, t] }) (e : TypeId) (bytes : Nat) (ht : P.underlying t = some (.slice e)) (hE : Elem P e bytes) (h64 : bytes ≤ 64)
    (B : Nat) (w0 w : World) (v : Value) (xs : List Value) (B' : Nat) (A : Option Addr) (m c : Nat) (news : List Value) (hs : a.eval s = v) (h : Own B w0 w e v xs) (hx : a.eval x = .slice A m c) (hr : Sl w B' A news) (hm : news.length = m)
    (hu : ∀ u ∈ news, u.oneCell' = true) (hlen : xs.length + m < 1000000000000)
    (k : ∀ v' w', Own B w0 w' e v' (xs ++ news) → wpList P ops Q rest (a.put o.dst v') w') : wpList P ops Q (o :: rest) a w := by
  obtain ⟨i, z, hi, hz, h1, hby, hzs⟩ := hE
  subst hm
  have hrun : ∃ v' w', (Builtin.append_ #[t, t] o.type #[v, .slice A news.length c]).run P w = .ok v' w' ∧ Own B w0 w' e v' (xs ++ news) := by
    rcases A with _ | ad
    · have hn : news = [] := by
        rcases Classical.em (news = []) with h0 | h0
        · exact h0
        · obtain ⟨_, _, h2, _⟩ := hr h0; cases h2
      subst hn
      exact ⟨v, w, run_append_nothing w B t o.type e i 1 ht hi v _ xs h.row c, by simpa using h⟩
    · have hcells : ∀ j u, news[j]? = some u → w.cell? (ad.add j) = some u := by
        intro j u hj
        have hjl : j < news.length := by
          rcases Nat.lt_or_ge j news.length with h2 | h2
          · exact h2
          · rw [List.getElem?_eq_none h2] at hj; cases hj
        obtain ⟨b, off, h2, _, hc⟩ := hr (fun e => by simp [e] at hjl)
        injection h2 with h2
        subst h2
        have e : (⟨b, off, none⟩ : Addr).add j = ⟨b, off + j, none⟩ := by unfold Addr.add; split <;> simp_all
        rw [e, hc j hjl, hj]
      have hb2 : (xs.length + news.length) * bytes ≤ (xs.length + news.length) * 64 := Nat.mul_le_mul_left _ h64
      obtain ⟨v', w', hrun, h2, h3, _, h5⟩ := run_append_own_at (P := P) w B t o.type e i z 1 bytes ht hi hz h1 hby hzs (by decide) v xs.length xs h.row ad news.length c news (by simp) hcells hu (by simp only [maxLen]; omega) (by omega) h.le
      refine ⟨v', w', hrun, by simpa using h2, h.below.grown h3 h.le (fun g hg' => (h.row.lt g hg').1), Nat.le_trans h.le h3.size⟩
  obtain ⟨v', w', hrun, hown⟩ := hrun
  refine wpList_plain hgd fun _ hK => ?_
  unfold Oper.wp execOp
  simp only [ho, resolve, invoke, builtin, Sem.run_bind, Sem.run_pure, Result.andThen_ok, List.map_toArray, List.map_cons, List.map_nil, hs, hx, hrun]
  exact hK _ _ (k v' w' hown)

/-- 'v = append(v, u)', v a row of the call's own: behind it the row with u. -/
theorem wpList_push {ops : Array Oper} {rest : List Oper} {o : Oper} {a : Act} {Q : Exit → Act → World → Prop} (hgd : o.guard = none) (s x : Operand) (t : TypeId)
    (ho : o.op = .call { callee := .builtin .append, args := #[s, x], argTypes := #[t, t] }) (e : TypeId) (bytes : Nat) (ht : P.underlying t = some (.slice e)) (hE : Elem P e bytes) (h64 : bytes ≤ 64)
    (B : Nat) (w0 w : World) (v : Value) (xs : List Value) (u : Value) (c : Nat) (hs : a.eval s = v) (h : Own B w0 w e v xs) (hx : a.eval x = .slice (some ⟨w.heap.size, 0, none⟩) 1 c)
    (hu : u.oneCell' = true) (hlen : xs.length < 1000000000000)
    (k : ∀ v' w', Own B w0 w' e v' (xs ++ [u]) → wpList P ops Q rest (a.put o.dst v') w') : wpList P ops Q (o :: rest) a (w.alloc (.cells #[u] e)) := by
  obtain ⟨i, z, hi, hz, h1, hby, hzs⟩ := hE
  refine wpList_append_own _ hgd s x t ho B e i z 1 bytes ht hi hz h1 hby hzs (by decide) v xs.length xs hs (h.row.alloc _) ⟨w.heap.size, 0, none⟩ 1 c [u] hx rfl ?_ ?_ ?_ ?_ ?_ ?_
  · exact cell_one_new _ _ _
  · intro y hy
    simp at hy
    subst hy
    exact hu
  · simp only [maxLen]; omega
  · have : (xs.length + 1) * bytes ≤ (xs.length + 1) * 64 := Nat.mul_le_mul_left _ h64
    omega
  · have := h.le; simp; omega
  · intro v' w' hown hg _
    refine k v' w' ⟨by simpa using hown, ?_, ?_⟩
    · refine (h.below.alloc h.le _).grown hg (by have := h.le; simp; omega) (fun g hg' => ?_)
      exact (h.row.lt g hg').1
    · have := hg.size; have := h.le; simp at *; omega
end

end Go.Proofs.YthkdpcoacjgomaaDoor
