/- A row of the call's own that grows by append: what is owned, and that nothing older than B has changed. Plain definitions and lemmas, no condition. -/
import Derived.Test.YtdmgmlhcpkampaaMem
import Derived.Maps.AppendAt
import Derived.OwnWalk
namespace Go.Proofs.Ytdmgmlhcpkampaa
open Go.RowKit

/-- v is a slice of the call's own (blocks from B on), of element type e (one cell each), holding xs; below B the world is as w0 was. -/
structure Own (B : Nat) (w0 w : World) (e : TypeId) (v : Value) (xs : List Value) : Prop where
  row : w.ownsRow B e 1 v xs.length xs
  below : Below B w0 w
  le : B ≤ w.heap.size

/-- one cell an element; of so many bytes. -/
def Elem (P : Program) (e : TypeId) (bytes : Nat) : Prop := ∃ i z, P.info? e = some i ∧ i.zero = some z ∧ i.size = 1 ∧ i.bytes = bytes ∧ z.cells.size = 1
theorem Elem.mk_ {P : Program} {e : TypeId} {z : Value} {bytes : Nat} (h : (P.info? e).map (fun i => (i.zero, i.size, i.bytes)) = some (some z, 1, bytes)) (hz : z.cells.size = 1) : Elem P e bytes := by
  obtain ⟨i, h1, h2, h3, h4⟩ := info_parts h
  exact ⟨i, z, h1, h2, h3, h4, hz⟩

section
variable {B : Nat} {w0 w w' : World} {e : TypeId} {v : Value} {xs : List Value}
theorem Own.nil_ (w0 w : World) (e : TypeId) (hb : Below B w0 w) (hB : B ≤ w.heap.size) : Own B w0 w e (.slice none 0 0) [] :=
  ⟨World.ownsRow_nil _ _ _ _, hb, hB⟩
theorem Own.drewN (h : Own B w0 w e v xs) (n : Nat) : Own B w0 (w.drewN n) e v xs := ⟨h.row, ⟨h.below.os, h.below.tape, h.below.output, h.below.size, h.below.block⟩, h.le⟩
theorem Own.form (h : Own B w0 w e v xs) : ∃ A c, v = .slice A xs.length c ∧ xs.length ≤ c ∧ c ≤ maxLen ∧ Sl w w.heap.size A xs := by
  rcases h.row.2 with ⟨rfl, hn⟩ | ⟨g, cap, cur, rfl, hg, hcur, hle, hm, hsz, htk⟩
  · rw [hn]
    exact ⟨none, 0, rfl, Nat.le_refl _, Nat.zero_le _, fun hne => absurd (List.eq_nil_of_length_eq_zero hn) hne⟩
  · refine ⟨_, cap, rfl, hle, hm, fun hne => ⟨g, 0, rfl, ?_, fun i hi => ?_⟩⟩
    · rcases Nat.lt_or_ge g w.heap.size with h1 | h1
      · exact h1
      · rw [Array.getElem?_eq_none h1] at hcur; cases hcur
    · rw [Nat.zero_add]
      exact h.row.cellAt i (by omega)
theorem Own.bytes {bs : List UInt8} (h : Own B w0 w e v (u8s bs)) : ∃ A c, v = .slice A bs.length c ∧ bs.length ≤ c ∧ c ≤ maxLen ∧ Sl w w.heap.size A (u8s bs) := by
  simpa using h.form
theorem Own.later (h : Own B w0 w e v xs) (hb : Below w.heap.size w w') : Own B w0 w' e v xs := by
  refine ⟨?_, h.below.trans (hb.mono h.le), Nat.le_trans h.le hb.size⟩
  refine ⟨h.row.1, ?_⟩
  rcases h.row.2 with ⟨rfl, hn⟩ | ⟨g, cap, cur, rfl, hg, hcur, hrest⟩
  · exact .inl ⟨rfl, hn⟩
  · refine .inr ⟨g, cap, cur, rfl, hg, ?_, hrest⟩
    have hlt : g < w.heap.size := by
      rcases Nat.lt_or_ge g w.heap.size with h1 | h1
      · exact h1
      · rw [Array.getElem?_eq_none h1] at hcur; cases hcur
    rw [hb.block g hlt]; exact hcur
end

section
variable {P : Program}
/-- 'v = append(v, u)', v a row of the call's own: behind it the row with u. -/
theorem wpList_push {ops : Array Oper} {rest : List Oper} {o : Oper} {a : Act} {Q : Exit → Act → World → Prop} (hgd : o.guard = none) (s x : Operand) (t : TypeId)
    (ho : o.op = .call { callee := .builtin .append, args := #[s, x], argTypes := #[t, t] }) (e : TypeId) (bytes : Nat) (ht : P.underlying t = some (.slice e)) (hE : Elem P e bytes) (h64 : bytes ≤ 64)
    (B : Nat) (w0 w : World) (v : Value) (xs : List Value) (u : Value) (c : Nat) (hs : a.eval s = v) (h : Own B w0 w e v xs) (hx : a.eval x = .slice (some ⟨w.heap.size, 0, none⟩) 1 c)
    (hu : u.oneCell' = true) (hlen : xs.length < 1000000000000)
    (k : ∀ v' w', Own B w0 w' e v' (xs ++ [u]) → wpList P ops Q rest (a.put o.dst v') w') : wpList P ops Q (o :: rest) a (w.alloc (.cells #[u] e)) := by
  obtain ⟨i, z, hi, hz, h1, hby, hzs⟩ := hE
  refine wpList_append_own _ hgd s x t ho B e i z 1 bytes ht hi hz h1 hby hzs (by decide) v xs.length xs hs (h.row.alloc _) ⟨w.heap.size, 0, none⟩ 1 c [u] hx rfl ?_ ?_ ?_ ?_ ?_ ?_
  · exact cell_one_new _ _ _
  · intro y hy
    simp at hy
    subst hy
    exact hu
  · simp only [maxLen]; omega
  · have : (xs.length + 1) * bytes ≤ (xs.length + 1) * 64 := Nat.mul_le_mul_left _ h64
    omega
  · have := h.le; simp; omega
  · intro v' w' hown hg _
    refine k v' w' ⟨by simpa using hown, ?_, ?_⟩
    · refine (h.below.alloc h.le _).grown hg (by have := h.le; simp; omega) (fun g hg' => ?_)
      exact (h.row.lt g hg').1
    · have := hg.size; have := h.le; simp at *; omega
end

end Go.Proofs.Ytdmgmlhcpkampaa
