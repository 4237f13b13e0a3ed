/- A row of the call's own whose elements are of five cells (the reference's rows): what is owned, and that append adds one; other blocks of the call stay. Plain definitions and lemmas, no condition. -/
import Derived.Test.YtmdgemdollfnhaaDoorOpE
namespace Go.Proofs.YtmdgemdollfnhaaDoor
open Go.RowKit

/-- a row of the reference's table, as cells. -/
def cellsR (r : Opx.R) : List Value := [.int .i64 r.byte, .string ⟨r.name.toArray⟩, .int .i64 r.kind, .string ⟨r.types.toArray⟩, .int .i64 r.bytes]
def flatR (rs : List Opx.R) : List Value := rs.flatMap cellsR
theorem flatR_length (rs : List Opx.R) : (flatR rs).length = rs.length * 5 := by
  induction rs with
  | nil => rfl
  | cons r rs ih => simp only [flatR, List.flatMap_cons, List.length_append] at ih ⊢; rw [ih]; simp [cellsR]; omega
theorem flatR_append (rs ts : List Opx.R) : flatR (rs ++ ts) = flatR rs ++ flatR ts := by simp [flatR]
theorem flatR_get (rs : List Opx.R) (i k : Nat) (hi : i < rs.length) (hk : k < 5) : (flatR rs)[i * 5 + k]? = (cellsR rs[i])[k]? := by
  induction rs generalizing i with
  | nil => simp at hi
  | cons r rs ih =>
    have e : flatR (r :: rs) = cellsR r ++ flatR rs := by simp [flatR]
    have hl : (cellsR r).length = 5 := rfl
    rw [e]
    cases i with
    | zero => rw [List.getElem?_append_left (by rw [hl]; omega)]; simp
    | succ i =>
      rw [List.getElem?_append_right (by rw [hl]; omega), hl, show (i + 1) * 5 + k - 5 = i * 5 + k by omega, ih i (by simpa using hi)]
      simp

structure OwnR (B : Nat) (w0 w : World) (v : Value) (rs : List Opx.R) : Prop where
  row : w.ownsRow B 137 5 v rs.length (flatR rs)
  below : Below B w0 w
  le : B ≤ w.heap.size

theorem row_info : ∃ i z, Tryd.prog.info? 137 = some i ∧ i.zero = some z ∧ i.size = 5 ∧ i.bytes = 56 ∧ z.cells.size = 5 := by
  obtain ⟨i, h1, h2, h3, h4⟩ := info_parts (show (Tryd.prog.info? 137).map (fun i => (i.zero, i.size, i.bytes)) = some (some (.agg #[.int .i64 0, .string ⟨#[]⟩, .int .i64 0, .string ⟨#[]⟩, .int .i64 0]), 5, 56) by kernel_rfl)
  exact ⟨i, _, h1, h2, h3, h4, rfl⟩

section
variable {B : Nat} {w0 w w' : World} {v : Value} {rs : List Opx.R}
theorem OwnR.drewN (h : OwnR B w0 w v rs) (n : Nat) : OwnR B w0 (w.drewN n) v rs := ⟨h.row, ⟨h.below.os, h.below.tape, h.below.output, h.below.size, h.below.block⟩, h.le⟩
theorem OwnR.lt (h : OwnR B w0 w v rs) (hne : 0 < rs.length) : ∃ g c, v = .slice (some ⟨g, 0, none⟩) rs.length c ∧ B ≤ g ∧ g < w.heap.size ∧ rs.length ≤ c ∧ c ≤ maxLen ∧
    ∀ i k, i < rs.length → k < 5 → w.cell? ⟨g, i * 5 + k, none⟩ = (cellsR (rs.getD i default))[k]? := by
  have hrow := h.row
  rcases h.row.2 with ⟨_, hn⟩ | ⟨g, cap, cur, rfl, hg, hcur, hle, hm, hsz, htk⟩
  · omega
  · refine ⟨g, cap, rfl, hg, ?_, hle, hm, fun i k hi hk => ?_⟩
    · rcases Nat.lt_or_ge g w.heap.size with h1 | h1
      · exact h1
      · rw [Array.getElem?_eq_none h1] at hcur; cases hcur
    · rw [hrow.cellAt (i * 5 + k) (by omega), flatR_get rs i k hi hk, List.getD_eq_getElem?_getD, List.getElem?_eq_getElem hi]
      rfl
/-- 'v = append(v, r)', v a row of the call's own: behind it the row with r; a block that is not v's own stays, and does not become v's own. -/
theorem wpList_pushR {ops : Array Oper} {rest : List Oper} {o : Oper} {a : Act} {Q : Exit → Act → World → Prop} (hgd : o.guard = none) (s x : Operand)
    (ho : o.op = .call { callee := .builtin .append, args := #[s, x], argTypes := #[134, 134] })
    (r : Opx.R) (c : Nat) (hs : a.eval s = v) (h : OwnR B w0 w v rs) (hx : a.eval x = .slice (some ⟨w.heap.size, 0, none⟩) 1 c) (hlen : rs.length < 1000000)
    (k : ∀ v' w', OwnR B w0 w' v' (rs ++ [r]) → (∀ m, m < w.heap.size → v.ownBlock ≠ some m → w'.heap[m]? = w.heap[m]? ∧ v'.ownBlock ≠ some m) → w.heap.size ≤ w'.heap.size → wpList Tryd.prog ops Q rest (a.put o.dst v') w') :
    wpList Tryd.prog ops Q (o :: rest) a (w.alloc (.cells #[.int .i64 r.byte, .string ⟨r.name.toArray⟩, .int .i64 r.kind, .string ⟨r.types.toArray⟩, .int .i64 r.bytes] 137)) := by
  obtain ⟨i, z, hi, hz, h1, hby, hzs⟩ := row_info
  have hcells : ∀ j u, (cellsR r)[j]? = some u → (w.alloc (.cells #[.int .i64 r.byte, .string ⟨r.name.toArray⟩, .int .i64 r.kind, .string ⟨r.types.toArray⟩, .int .i64 r.bytes] 137)).cell? ((⟨w.heap.size, 0, none⟩ : Addr).add j) = some u := by
    intro j u hj
    have e : (⟨w.heap.size, 0, none⟩ : Addr).add j = ⟨w.heap.size, j, none⟩ := by unfold Addr.add; split <;> simp_all
    rw [e, World.cell?_alloc_at _ _ _ _ rfl]
    simpa [cellsR] using hj
  have hle := h.le
  obtain ⟨v', w', hrun, h2, h3, _, h5⟩ := run_append_own_at (P := Tryd.prog) (w.alloc (.cells #[.int .i64 r.byte, .string ⟨r.name.toArray⟩, .int .i64 r.kind, .string ⟨r.types.toArray⟩, .int .i64 r.bytes] 137)) B 134 o.type 137 i z 5 56 Tryd.underlying134 hi hz h1 hby hzs (by decide) v rs.length (flatR rs) (h.row.alloc _) ⟨w.heap.size, 0, none⟩ 1 c (cellsR r) rfl hcells
    (by intro u hu; simp [cellsR] at hu; rcases hu with rfl | rfl | rfl | rfl | rfl <;> rfl) (by simp only [maxLen]; omega) (by omega) (by simp; omega)
  have hown : OwnR B w0 w' v' (rs ++ [r]) := by
    refine ⟨by simpa [flatR_append, flatR] using h2, (h.below.alloc h.le _).grown h3 (by simp; omega) (fun g hg' => (h.row.lt g hg').1), ?_⟩
    have := h3.size; simp at this; omega
  refine wpList_plain hgd fun _ hK => ?_
  unfold Oper.wp execOp
  simp only [ho, resolve, invoke, builtin, Sem.run_bind, Sem.run_pure, Result.andThen_ok, List.map_toArray, List.map_cons, List.map_nil, hs, hx, hrun]
  refine hK _ _ (k v' w' hown (fun m hm hne => ⟨?_, ?_⟩) (by have := h3.size; simp at this; omega))
  · rw [h3.block m (by simp; omega) (fun e => hne e.symm), Below.heap_alloc _ _ _ hm]
  · rcases h5 with h5 | h5
    · rw [h5]; exact hne
    · rw [h5]; simp; omega
/-- the same, the cells told one by one. -/
theorem wpList_pushV {ops : Array Oper} {rest : List Oper} {o : Oper} {a : Act} {Q : Exit → Act → World → Prop} {b ki y : Int} {n t : ByteArray} (hgd : o.guard = none) (s x : Operand)
    (ho : o.op = .call { callee := .builtin .append, args := #[s, x], argTypes := #[134, 134] })
    (r : Opx.R) (c : Nat) (hs : a.eval s = v) (h : OwnR B w0 w v rs) (hx : a.eval x = .slice (some ⟨w.heap.size, 0, none⟩) 1 c) (hlen : rs.length < 1000000)
    (hr : r.byte = b ∧ ⟨r.name.toArray⟩ = n ∧ r.kind = ki ∧ ⟨r.types.toArray⟩ = t ∧ r.bytes = y)
    (k : ∀ v' w', OwnR B w0 w' v' (rs ++ [r]) → (∀ m, m < w.heap.size → v.ownBlock ≠ some m → w'.heap[m]? = w.heap[m]? ∧ v'.ownBlock ≠ some m) → w.heap.size ≤ w'.heap.size → wpList Tryd.prog ops Q rest (a.put o.dst v') w') :
    wpList Tryd.prog ops Q (o :: rest) a (w.alloc (.cells #[.int .i64 b, .string n, .int .i64 ki, .string t, .int .i64 y] 137)) := by
  obtain ⟨rfl, rfl, rfl, rfl, rfl⟩ := hr
  exact wpList_pushR hgd s x ho r c hs h hx hlen k
end

end Go.Proofs.YtmdgemdollfnhaaDoor
