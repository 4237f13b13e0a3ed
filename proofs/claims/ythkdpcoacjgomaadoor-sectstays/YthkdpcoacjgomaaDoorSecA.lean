/- What memory says, of rows of structs and of bytes: readings, rows of the call's own, what stays. Plain definitions and lemmas, no condition. -/
import Derived.Test.YthkdpcoacjgomaaDoorArgs
import Derived.Test.YthkdpcoacjgomaaDoorOwn
import Derived.Test.YthkdpcoacjgomaaDoorLebT7
import Derived.ChangeArms
import Derived.Deep.Fields
import Derived.Deep.Slices
import Derived.ChangeSame
set_option linter.unusedVariables false
set_option linter.unusedSimpArgs false
namespace Go.Proofs.YthkdpcoacjgomaaDoor
namespace Trx
end Trx
open Go.RowKit Go.ChangeShapes Go.WideShapes Go.Deep Trx

def inI (n : Int) : Prop := -9223372036854775808 ≤ n ∧ n ≤ 9223372036854775807
def inU (n : Int) : Prop := 0 ≤ n ∧ n ≤ 18446744073709551615
theorem inI_of {n : Int} (h : (Lit.int .i64 n).wf = true) : inI n := by have := bounds_i64 h; unfold inI; omega
theorem list_of {α : Type} {Q : Nat → α → Prop} : ∀ m, (∀ i, i < m → ∃ a, Q i a) → ∃ l : List α, l.length = m ∧ ∀ i a, l[i]? = some a → Q i a
  | 0, _ => ⟨[], rfl, by simp⟩
  | m + 1, h => by
    obtain ⟨l, hl, hq⟩ := list_of m fun i hi => h i (by omega)
    obtain ⟨a, ha⟩ := h m (by omega)
    refine ⟨l ++ [a], by simp [hl], fun i b hi => ?_⟩
    rcases Nat.lt_or_ge i l.length with h1 | h1
    · rw [List.getElem?_append_left h1] at hi
      exact hq i b hi
    · have h2 : i = l.length := by
        rcases Nat.lt_or_ge i (l ++ [a]).length with h3 | h3
        · simp at h3; omega
        · rw [List.getElem?_eq_none h3] at hi; cases hi
      subst h2
      simp at hi
      subst hi
      rw [hl]
      exact ha
section
variable {H : Type} {enc : TypeId × Value → H} {w : World} {base : Nat} {spare : Nat → Bool} {held : Bool}
/-- the fields of a struct of one-cell fields. -/
theorem open_fields {P : Program} {e : TypeId} {fs : Array Field} {fuel : Nat} {cs : List Value} {x : DataW H × List MemPlace} (he : P.underlying e = some (.struct fs))
    (hone : oneCellFields P fs = true) (hC : P.cellsOf e = fs.size) (h : DataW.trod enc P w base spare held fuel e cs = some x) :
    ∃ n, fuel = n + 1 ∧ cs.length = fs.size ∧ ∀ (j : Nat) (f : Field), fs[j]? = some f → ∃ v y, cs[j]? = some v ∧ DataW.trod enc P w base spare held n f.type [v] = some y := by
  obtain ⟨ys, n', hn', hy, hlen, hyl, hf⟩ := DataW.trod_struct he h
  refine ⟨n', hn', hlen.trans hC, fun j f hj => ?_⟩
  obtain ⟨ho, hk⟩ := hone_of hone j f hj
  have hjl : j < fs.size := (Array.getElem?_eq_some_iff.1 hj).1
  have hlc := hlen.trans hC
  have h1 := hf j f hj
  rw [ho, hk] at h1
  have hone' : (cs.drop j).take 1 = [cs[j]'(by omega)] := by
    rw [List.drop_eq_getElem_cons (by omega)]
    rfl
  rw [hone'] at h1
  have hys : ys[j]? = some (ys[j]'(by omega)) := List.getElem?_eq_getElem (by omega)
  exact ⟨cs[j]'(by omega), _, List.getElem?_eq_getElem (by omega), h1.trans hys⟩
theorem cells_at {a : Addr} {k n : Nat} {cs : List Value} (h : w.cells? base (a.add k) n = some cs) : cs.length = n ∧ ∀ j, j < n → w.cell? ((a.add k).add j) = cs[j]? := by
  obtain ⟨_, hcl, hat⟩ := World.cells?_some h
  exact ⟨hcl, hat⟩
theorem cell_block_lt {a : Addr} {v : Value} (h : w.cell? a = some v) : a.block < w.heap.size ∧ a.spot = none := ⟨World.block_lt_of_cell? _ _ h, World.cell?_spot h⟩
theorem add_at (b o k : Nat) : (⟨b, o, none⟩ : Addr).add k = ⟨b, o + k, none⟩ := by unfold Addr.add; split <;> simp_all
end

/-- how many bytes one piece of memory takes at most. -/
def RB : Nat := 140737488351232
/-- what a datum weighs is within reach. -/
def Lw {H : Type} (P : Program) (t : TypeId) (d : DataW H) : Prop := ∀ y ∈ d.weights P t, y ≤ RB

section
variable {H : Type} {P : Program}
theorem weightsAll_mem {e : TypeId} {l : List (DataW H)} {d : DataW H} (h : d ∈ l) {y : Nat} (hy : y ∈ d.weights P e) : y ∈ DataW.weightsAll P e l := by
  induction l with
  | nil => cases h
  | cons a l ih =>
    rw [DataW.weightsAll, List.mem_append]
    rcases List.mem_cons.1 h with rfl | h
    · exact .inl hy
    · exact .inr (ih h)
theorem weightsEach_mem {ts : List TypeId} {l : List (DataW H)} {i : Nat} {t : TypeId} {d : DataW H} (ht : ts[i]? = some t) (hd : l[i]? = some d) {y : Nat} (hy : y ∈ d.weights P t) : y ∈ DataW.weightsEach P ts l := by
  induction ts generalizing l i with
  | nil => simp at ht
  | cons u ts ih =>
    cases l with
    | nil => simp at hd
    | cons a l =>
      rw [DataW.weightsEach, List.mem_append]
      cases i with
      | zero =>
        simp at ht hd
        subst ht hd
        exact .inl hy
      | succ i =>
        simp at ht hd
        exact .inr (ih ht hd)
end

/-- a slice whose elements are of k cells each reads as rows of cells. -/
def RowsAt (w : World) (B : Nat) (A : Option Addr) (k : Nat) (rs : List (List Value)) : Prop :=
  rs ≠ [] → ∃ b o, A = some ⟨b, o, none⟩ ∧ b < B ∧ ∀ i r, rs[i]? = some r → ∀ j, j < k → w.cell? ⟨b, o + i * k + j, none⟩ = r[j]?
section
variable {w w' : World} {B B' : Nat} {A : Option Addr} {k : Nat} {rs : List (List Value)}
theorem RowsAt.nil_ : RowsAt w B A k [] := fun h => absurd rfl h
theorem RowsAt.keep (hB : B ≤ B') (hk : ∀ b o, b < B → w'.cell? ⟨b, o, none⟩ = w.cell? ⟨b, o, none⟩) (h : RowsAt w B A k rs) : RowsAt w' B' A k rs := fun hne => by
  obtain ⟨b, o, e, hb, hc⟩ := h hne
  exact ⟨b, o, e, by omega, fun i r hi j hj => (hk _ _ hb).trans (hc i r hi j hj)⟩
theorem RowsAt.below (h : RowsAt w B A k rs) (hb : Below B w w') : RowsAt w' B A k rs := h.keep (Nat.le_refl _) fun b o hp => hb.cell (p := ⟨b, o, none⟩) hp
theorem RowsAt.more (h : RowsAt w B A k rs) (hB : B ≤ B') : RowsAt w B' A k rs := h.keep hB fun _ _ _ => rfl
theorem RowsAt.at_ (h : RowsAt w B A k rs) {i : Nat} {r : List Value} (hi : rs[i]? = some r) : ∃ b o, A = some ⟨b, o, none⟩ ∧ b < B ∧ ∀ j, j < k → w.cell? ⟨b, o + i * k + j, none⟩ = r[j]? := by
  obtain ⟨b, o, e, hb, hc⟩ := h (fun e => by rw [e] at hi; simp at hi)
  exact ⟨b, o, e, hb, hc i r hi⟩
end

section
variable {H : Type} {enc : TypeId × Value → H} {P : Program} {w : World} {base : Nat} {spare : Nat → Bool} {held : Bool}
/-- a struct, field by field. -/
theorem open_struct {e : TypeId} {fs : Array Field} {fuel : Nat} {cs : List Value} {x : DataW H × List MemPlace} (he : P.underlying e = some (.struct fs)) (h : DataW.trod enc P w base spare held fuel e cs = some x) (hw : Lw P e x.1) :
    ∃ n, fuel = n + 1 ∧ cs.length = P.cellsOf e ∧ ∀ (i : Nat) (f : Field), fs[i]? = some f → ∃ y, DataW.trod enc P w base spare held n f.type ((cs.drop f.offset).take (P.cellsOf f.type)) = some y ∧ Lw P f.type y.1 := by
  obtain ⟨ys, n, hn, hy, hlen, hyl, hf⟩ := DataW.trod_struct he h
  refine ⟨n, hn, hlen, fun i f hi => ?_⟩
  have hil : i < fs.size := (Array.getElem?_eq_some_iff.1 hi).1
  have hys : ys[i]? = some (ys[i]'(by omega)) := List.getElem?_eq_getElem (by omega)
  refine ⟨_, (hf i f hi).trans hys, fun y hyw => hw y ?_⟩
  subst hy
  show y ∈ DataW.weights P e (.agg (ys.map (·.1)))
  rw [DataW.weights, he]
  refine weightsEach_mem (i := i) (t := f.type) ?_ ?_ hyw
  · rw [List.getElem?_map, Array.getElem?_toList, hi]; rfl
  · rw [List.getElem?_map, hys]; rfl
/-- a slice of whatever is opened to cells. -/
theorem open_rows {α : Type} (cells : α → List Value) (ok : α → Prop) {t e : TypeId} (k : Nat) (ht : P.underlying t = some (.slice e)) (hk : P.cellsOf e = k) (hpos : 0 < k) {fuel : Nat} {cs : List Value} {x : DataW H × List MemPlace}
    (hopen : ∀ n cs x, n < fuel → DataW.trod enc P w base spare held n e cs = some x → Lw P e x.1 → ∃ a, cs = cells a ∧ ok a) (hlen : ∀ a, (cells a).length = k)
    (h : DataW.trod enc P w base spare held fuel t cs = some x) (hw : Lw P t x.1) :
    ∃ A l c, cs = [.slice A (List.length l) c] ∧ l.length ≤ c ∧ c ≤ maxLen ∧ l.length * P.bytesOf e ≤ RB ∧ RowsAt w w.heap.size A k (l.map cells) ∧ ∀ a ∈ l, ok a := by
  rcases DataW.trod_slice ht h with ⟨h0, -⟩ | ⟨a, l, cap, elems, rest, n, hn, hcs, hx, hb, hl, hm, hlen', hel, -, -⟩
  · exact ⟨none, [], 0, h0, Nat.le_refl _, Nat.zero_le _, by simp, RowsAt.nil_, by simp⟩
  · subst hx
    have hwt : DataW.weights P t (.slice (elems.map (·.1)) (rest.map (·.1))) = (l + rest.length) * P.bytesOf e :: (DataW.weightsAll P e (elems.map (·.1)) ++ DataW.weightsAll P e (rest.map (·.1))) := by
      rw [DataW.weights, ht]; simp [hlen']
    rw [hk] at hel
    have hone : ∀ i, i < l → ∃ v : α, (∀ j, j < k → w.cell? ((a.add (i * k)).add j) = (cells v)[j]?) ∧ ok v := by
      intro i hi
      have h1 := hel i hi
      have hei : elems[i]? = some (elems[i]'(by omega)) := List.getElem?_eq_getElem (by omega)
      rw [hei, Option.bind_eq_some_iff] at h1
      obtain ⟨cs', h2, h3⟩ := h1
      obtain ⟨v, rfl, hok⟩ := hopen n _ _ (by omega) h3 (fun y hy => hw y (by
        rw [hwt]
        refine List.mem_cons_of_mem _ (List.mem_append_left _ (weightsAll_mem ?_ hy))
        exact List.mem_map_of_mem (List.getElem_mem (by omega))))
      exact ⟨v, fun j hj => (cells_at h2).2 j hj, hok⟩
    obtain ⟨ns, hns, hq⟩ := list_of l hone
    refine ⟨some a, ns, cap, by rw [hcs, hns], by rw [hns]; exact hl, hm, ?_, fun hne => ?_, fun v hv => ?_⟩
    · have := hw ((l + rest.length) * P.bytesOf e) (by rw [hwt]; exact List.mem_cons_self)
      rw [hns]
      exact Nat.le_trans (Nat.mul_le_mul_right _ (Nat.le_add_right _ _)) this
    · have hpos' : 0 < ns.length := by
        rcases Nat.eq_zero_or_pos ns.length with h0 | h0
        · rw [List.eq_nil_of_length_eq_zero h0] at hne
          exact absurd rfl hne
        · exact h0
      obtain ⟨hc0, -⟩ := hq 0 _ (List.getElem?_eq_getElem hpos')
      obtain ⟨blk, off, spot⟩ := a
      have h00 := hc0 0 hpos
      have hsome : (cells ns[0])[0]? = some ((cells ns[0])[0]'(by rw [hlen]; exact hpos)) := List.getElem?_eq_getElem _
      have hs : spot = none := by
        have := (cell_block_lt (h00.trans hsome)).2
        simpa [Addr.add] using this
      have hbl : blk < w.heap.size := by
        have := (cell_block_lt (h00.trans hsome)).1
        simpa [Addr.add] using this
      subst hs
      refine ⟨blk, off, rfl, hbl, fun i r hi j hj => ?_⟩
      rw [List.getElem?_map] at hi
      obtain ⟨v, hv, rfl⟩ := Option.map_eq_some_iff.1 hi
      obtain ⟨hc, -⟩ := hq i v hv
      rw [← hc j hj, add_at, add_at]
    · obtain ⟨i, hi, hv'⟩ := List.getElem_of_mem hv
      exact (hq i v (by rw [List.getElem?_eq_getElem hi, hv'])).2
end

theorem flatten_len {k : Nat} {rs : List (List Value)} (h : ∀ r ∈ rs, r.length = k) : rs.flatten.length = rs.length * k := by
  induction rs with
  | nil => simp
  | cons r rs ih =>
    rw [List.flatten_cons, List.length_append, ih (fun r hr => h r (List.mem_cons_of_mem _ hr)), h r List.mem_cons_self, List.length_cons]
    rw [Nat.add_mul]; omega
theorem flatten_get {k : Nat} {rs : List (List Value)} (h : ∀ r ∈ rs, r.length = k) {i : Nat} {r : List Value} (hi : rs[i]? = some r) {j : Nat} (hj : j < k) : rs.flatten[i * k + j]? = r[j]? := by
  induction rs generalizing i with
  | nil => simp at hi
  | cons s rs ih =>
    have hs := h s List.mem_cons_self
    rw [List.flatten_cons]
    cases i with
    | zero =>
      simp at hi
      subst hi
      rw [List.getElem?_append_left (by omega)]
      simp
    | succ i =>
      simp at hi
      have e : (i + 1) * k = k + i * k := by rw [Nat.add_mul]; omega
      rw [List.getElem?_append_right (by omega), hs, show (i + 1) * k + j - k = i * k + j by omega]
      exact ih (fun r hr => h r (List.mem_cons_of_mem _ hr)) hi

/-- v is a slice of the call's own (blocks from B on), of element type e (k cells each), holding rs; below B the world is as w0 was. -/
structure OwnK (B : Nat) (w0 w : World) (e : TypeId) (k : Nat) (v : Value) (rs : List (List Value)) : Prop where
  row : w.ownsRow B e k v rs.length rs.flatten
  len : ∀ r ∈ rs, r.length = k
  below : Below B w0 w
  le : B ≤ w.heap.size
/-- an element type: so many cells, so many bytes. -/
def ElemK (P : Program) (e : TypeId) (k y : Nat) : Prop := ∃ i z, P.info? e = some i ∧ i.zero = some z ∧ i.size = k ∧ i.bytes = y ∧ z.cells.size = k
theorem ElemK.mk_ {P : Program} {e : TypeId} {z : Value} {k y : Nat} (h : (P.info? e).map (fun i => (i.zero, i.size, i.bytes)) = some (some z, k, y)) (hz : z.cells.size = k) : ElemK P e k y := by
  obtain ⟨i, h1, h2, h3, h4⟩ := info_parts h
  exact ⟨i, z, h1, h2, h3, h4, hz⟩

section
variable {P : Program} {B : Nat} {w0 w w' : World} {e : TypeId} {k : Nat} {v : Value} {rs : List (List Value)}
theorem OwnK.nil_ (w0 w : World) (e : TypeId) (k : Nat) (hb : Below B w0 w) (hB : B ≤ w.heap.size) : OwnK B w0 w e k (.slice none 0 0) [] :=
  ⟨World.ownsRow_nil _ _ _ _, by simp, hb, hB⟩
theorem OwnK.later (h : OwnK B w0 w e k v rs) (hb : Below w.heap.size w w') : OwnK B w0 w' e k v rs := by
  refine ⟨⟨h.row.1, ?_⟩, h.len, h.below.trans (hb.mono h.le), Nat.le_trans h.le hb.size⟩
  rcases h.row.2 with ⟨rfl, hn⟩ | ⟨g, cap, cur, rfl, hg, hcur, hrest⟩
  · exact .inl ⟨rfl, hn⟩
  · refine .inr ⟨g, cap, cur, rfl, hg, ?_, hrest⟩
    have hlt : g < w.heap.size := by
      rcases Nat.lt_or_ge g w.heap.size with h1 | h1
      · exact h1
      · rw [Array.getElem?_eq_none h1] at hcur; cases hcur
    rw [hb.block g hlt]; exact hcur
theorem OwnK.alloc (h : OwnK B w0 w e k v rs) (o : Obj) : OwnK B w0 (w.alloc o) e k v rs := h.later ((Below.refl _ _).alloc (Nat.le_refl _) o)
theorem OwnK.drewN (h : OwnK B w0 w e k v rs) (n : Nat) : OwnK B w0 (w.drewN n) e k v rs := ⟨h.row, h.len, ⟨h.below.os, h.below.tape, h.below.output, h.below.size, h.below.block⟩, h.le⟩
theorem OwnK.own_lt (h : OwnK B w0 w e k v rs) {g : Nat} (hg : v.ownBlock = some g) : B ≤ g ∧ g < w.heap.size := h.row.lt g hg
theorem OwnK.base {B' : Nat} {w00 : World} (h : OwnK B w0 w e k v rs) (hB : B' ≤ B) (hb : Below B' w00 w0) : OwnK B' w00 w e k v rs := by
  refine ⟨⟨h.row.1, ?_⟩, h.len, hb.trans (h.below.mono hB), Nat.le_trans hB h.le⟩
  rcases h.row.2 with hx | ⟨g, cap, cur, h1, h2, h3⟩
  · exact .inl hx
  · exact .inr ⟨g, cap, cur, h1, by omega, h3⟩
theorem OwnK.setOther (h : OwnK B w0 w e k v rs) {n : Nat} (hn : B ≤ n) (hne : v.ownBlock ≠ some n) (i : Nat) (u : Value) : OwnK B w0 (w.setCell ⟨n, i, none⟩ u) e k v rs := by
  refine ⟨⟨h.row.1, ?_⟩, h.len, h.below.setCell hn u, by have := h.le; simpa [World.setCell] using this⟩
  rcases h.row.2 with hx | ⟨g, cap, cur, rfl, h2, h3, h4⟩
  · exact .inl hx
  · refine .inr ⟨g, cap, cur, rfl, h2, ?_, h4⟩
    rw [Below.heap_setCell _ _ _ _ (by intro e; subst e; exact hne rfl)]
    exact h3
/-- where it lies, and that it reads as its rows. -/
theorem OwnK.form (h : OwnK B w0 w e k v rs) : ∃ A c, v = .slice A rs.length c ∧ rs.length ≤ c ∧ c ≤ maxLen ∧ RowsAt w w.heap.size A k rs := by
  have hrow := h.row
  rcases h.row.2 with ⟨rfl, hn⟩ | ⟨g, cap, cur, rfl, hg, hcur, hle, hm, hsz, htk⟩
  · exact ⟨none, 0, by rw [hn], by omega, Nat.zero_le _, fun hne => absurd (List.eq_nil_of_length_eq_zero hn) hne⟩
  · have hlt : g < w.heap.size := by
      rcases Nat.lt_or_ge g w.heap.size with h1 | h1
      · exact h1
      · rw [Array.getElem?_eq_none h1] at hcur; cases hcur
    refine ⟨_, cap, rfl, hle, hm, fun hne => ⟨g, 0, rfl, hlt, fun i r hi j hj => ?_⟩⟩
    have hil : i < rs.length := by
      rcases Nat.lt_or_ge i rs.length with h1 | h1
      · exact h1
      · rw [List.getElem?_eq_none h1] at hi; cases hi
    have hlt2 : i * k + j < rs.length * k := by
      have : (i + 1) * k ≤ rs.length * k := Nat.mul_le_mul_right _ hil
      rw [Nat.add_mul] at this
      omega
    rw [Nat.zero_add, hrow.cellAt (i * k + j) hlt2, flatten_get h.len hi hj]
/-- the same, with the block: what it reads hangs on that block alone. -/
theorem OwnK.formB (h : OwnK B w0 w e k v rs) (hk : 0 < k) : ∃ A c, v = .slice A rs.length c ∧ rs.length ≤ c ∧ c ≤ maxLen ∧ (rs ≠ [] → ∃ g, v.ownBlock = some g ∧ A = some ⟨g, 0, none⟩ ∧ B ≤ g ∧ g < w.heap.size ∧ ∀ i r, rs[i]? = some r → ∀ j, j < k → w.cell? ⟨g, i * k + j, none⟩ = r[j]?) := by
  have hrow := h.row
  rcases h.row.2 with ⟨rfl, hn⟩ | ⟨g, cap, cur, rfl, hg, hcur, hle, hm, hsz, htk⟩
  · exact ⟨none, 0, by rw [hn], by omega, Nat.zero_le _, fun hne => absurd (List.eq_nil_of_length_eq_zero hn) hne⟩
  · have hlt : g < w.heap.size := by
      rcases Nat.lt_or_ge g w.heap.size with h1 | h1
      · exact h1
      · rw [Array.getElem?_eq_none h1] at hcur; cases hcur
    refine ⟨_, cap, rfl, hle, hm, fun hne => ⟨g, rfl, rfl, hg, hlt, fun i r hi j hj => ?_⟩⟩
    have hil : i < rs.length := by
      rcases Nat.lt_or_ge i rs.length with h1 | h1
      · exact h1
      · rw [List.getElem?_eq_none h1] at hi; cases hi
    have hlt2 : i * k + j < rs.length * k := by
      have : (i + 1) * k ≤ rs.length * k := Nat.mul_le_mul_right _ hil
      rw [Nat.add_mul] at this
      omega
    rw [hrow.cellAt (i * k + j) hlt2, flatten_get h.len hi hj]
/-- 'v = append(v, r)', v a row of the call's own: behind it the row with r; a block that is not v's own stays, and does not become v's own. -/
theorem wpList_pushK {ops : Array Oper} {rest : List Oper} {o : Oper} {a : Act} {Q : Exit → Act → World → Prop} (hgd : o.guard = none) (s x : Operand) (t : TypeId)
    (ho : o.op = .call { callee := .builtin .append, args := #[s, x], argTypes := #[t, t] }) (y : Nat) (ht : P.underlying t = some (.slice e)) (hE : ElemK P e k y) (hk : 0 < k)
    (arr : Array Value) (c n : Nat) (hs : a.eval s = v) (h : OwnK B w0 w e k v rs) (hx : a.eval x = .slice (some ⟨n, 0, none⟩) 1 c) (hn : n = w.heap.size) (hr : arr.size = k) (h1 : ∀ u ∈ arr.toList, u.oneCell' = true) (hby : (rs.length + 1) * y ≤ 140737488355328) (hm : rs.length + 1 ≤ maxLen)
    (cont : ∀ v' w', OwnK B w0 w' e k v' (rs ++ [arr.toList]) → (∀ m, m < w.heap.size → v.ownBlock ≠ some m → w'.heap[m]? = w.heap[m]? ∧ v'.ownBlock ≠ some m) → w.heap.size ≤ w'.heap.size → wpList P ops Q rest (a.put o.dst v') w') :
    wpList P ops Q (o :: rest) a (w.alloc (.cells arr e)) := by
  subst hn
  obtain ⟨i, z, hi, hz, hsz, hyy, hzs⟩ := hE
  have hcells : ∀ j u, arr.toList[j]? = some u → (w.alloc (.cells arr e)).cell? ((⟨w.heap.size, 0, none⟩ : Addr).add j) = some u := by
    intro j u hj
    rw [add_at, Nat.zero_add, World.cell?_alloc_at _ _ _ _ rfl]
    simpa using hj
  have hle := h.le
  obtain ⟨v', w', hrun, h2, h3, _, h5⟩ := run_append_own_at (P := P) (w.alloc (.cells arr e)) B t o.type e i z k y ht hi hz hsz hyy hzs hk v rs.length rs.flatten (h.row.alloc _) ⟨w.heap.size, 0, none⟩ 1 c arr.toList (by simp [hr]) hcells h1 hm hby (by simp; omega)
  have hown : OwnK B w0 w' e k v' (rs ++ [arr.toList]) := by
    refine ⟨by simpa using h2, fun r hr' => ?_, (h.below.alloc h.le _).grown h3 (by simp; omega) (fun g hg' => (h.row.lt g hg').1), ?_⟩
    · rcases List.mem_append.1 hr' with h6 | h6
      · exact h.len r h6
      · simp at h6
        subst h6
        simpa using hr
    · have := h3.size; simp at this; omega
  refine wpList_plain hgd fun _ hK => ?_
  unfold Oper.wp execOp
  simp only [ho, resolve, invoke, builtin, Sem.run_bind, Sem.run_pure, Result.andThen_ok, List.map_toArray, List.map_cons, List.map_nil, hs, hx, hrun]
  refine hK _ _ (cont v' w' hown (fun m hm' hne => ⟨?_, ?_⟩) (by have := h3.size; simp at this; omega))
  · rw [h3.block m (by simp; omega) (fun e => hne e.symm), Below.heap_alloc _ _ _ hm']
  · rcases h5 with h5 | h5
    · rw [h5]; exact hne
    · rw [h5]; simp; omega
theorem run_append_nothingK (w : World) (base : Nat) (t ty e : TypeId) (i : TypeInfo) (size : Nat) (ht : P.underlying t = some (.slice e)) (hi : P.info? e = some i)
    (v : Value) (n : Nat) (xs : List Value) (hown : w.ownsRow base e size v n xs) (c : Nat) : (Builtin.append_ #[t, t] ty #[v, .slice none 0 c]).run P w = .ok v w := run_append_nothing w base t ty e i size ht hi v n xs hown c
/-- 'v = append(v, xs...)', v a row of the call's own, xs whatever reads as rows. -/
theorem wpList_catK {ops : Array Oper} {rest : List Oper} {o : Oper} {a : Act} {Q : Exit → Act → World → Prop} (hgd : o.guard = none) (s x : Operand) (t : TypeId)
    (ho : o.op = .call { callee := .builtin .append, args := #[s, x], argTypes := #[t, t] }) (y : Nat) (ht : P.underlying t = some (.slice e)) (hE : ElemK P e k y) (hk : 0 < k)
    {B' : Nat} {A : Option Addr} {m c : Nat} {news : List (List Value)} (hs : a.eval s = v) (h : OwnK B w0 w e k v rs) (hx : a.eval x = .slice A m c) (hr : RowsAt w B' A k news) (hlen : ∀ r ∈ news, r.length = k) (hm : news.length = m)
    (h1 : ∀ r ∈ news, ∀ u ∈ r, u.oneCell' = true) (hby : (rs.length + m) * y ≤ 140737488355328) (hmx : rs.length + m ≤ maxLen)
    (cont : ∀ v' w', OwnK B w0 w' e k v' (rs ++ news) → (∀ g, g < w.heap.size → v.ownBlock ≠ some g → w'.heap[g]? = w.heap[g]? ∧ v'.ownBlock ≠ some g) → w.heap.size ≤ w'.heap.size → wpList P ops Q rest (a.put o.dst v') w') :
    wpList P ops Q (o :: rest) a w := by
  obtain ⟨i, z, hi, hz, hsz, hyy, hzs⟩ := hE
  subst hm
  have hle := h.le
  have hrun : ∃ v' w', (Builtin.append_ #[t, t] o.type #[v, .slice A news.length c]).run P w = .ok v' w' ∧ OwnK B w0 w' e k v' (rs ++ news) ∧ (∀ g, g < w.heap.size → v.ownBlock ≠ some g → w'.heap[g]? = w.heap[g]? ∧ v'.ownBlock ≠ some g) ∧ w.heap.size ≤ w'.heap.size := by
    rcases A with _ | ad
    · have hn : news = [] := by
        rcases Classical.em (news = []) with h0 | h0
        · exact h0
        · obtain ⟨_, _, h2, _⟩ := hr h0; cases h2
      subst hn
      exact ⟨v, w, run_append_nothingK w B t o.type e i k ht hi v _ _ h.row c, by simpa using h, fun g _ hg => ⟨rfl, hg⟩, Nat.le_refl _⟩
    · have hcells : ∀ j u, news.flatten[j]? = some u → w.cell? (ad.add j) = some u := by
        intro j u hj
        have hjl : j < news.length * k := by
          rw [← flatten_len hlen]
          rcases Nat.lt_or_ge j news.flatten.length with h2 | h2
          · exact h2
          · rw [List.getElem?_eq_none h2] at hj; cases hj
        have hil : j / k < news.length := Nat.div_lt_of_lt_mul (by rw [Nat.mul_comm]; exact hjl)
        have hgi : news[j / k]? = some news[j / k] := List.getElem?_eq_getElem hil
        obtain ⟨b, off, h2, _, hc⟩ := hr (fun e => by simp [e] at hil)
        injection h2 with h2
        subst h2
        have hmod : j % k < k := Nat.mod_lt _ hk
        have hjj : j / k * k + j % k = j := by rw [Nat.mul_comm]; exact Nat.div_add_mod j k
        rw [add_at]
        have h3 := hc (j / k) _ hgi (j % k) hmod
        rw [Nat.add_assoc, hjj] at h3
        rw [h3, ← flatten_get hlen hgi hmod, hjj, hj]
      have hone : ∀ u ∈ news.flatten, u.oneCell' = true := by
        intro u hu
        obtain ⟨r, hr1, hr2⟩ := List.mem_flatten.1 hu
        exact h1 r hr1 u hr2
      obtain ⟨v', w', hrun, h2, h3, _, h5⟩ := run_append_own_at (P := P) w B t o.type e i z k y ht hi hz hsz hyy hzs hk v rs.length rs.flatten h.row ad news.length c news.flatten (flatten_len hlen) hcells hone hmx hby h.le
      refine ⟨v', w', hrun, ⟨by simpa using h2, fun r hr' => ?_, h.below.grown h3 h.le (fun g hg' => (h.row.lt g hg').1), Nat.le_trans h.le h3.size⟩, fun g hg hne => ⟨h3.block g hg (fun e => hne e.symm), ?_⟩, h3.size⟩
      · rcases List.mem_append.1 hr' with h6 | h6
        · exact h.len r h6
        · exact hlen r h6
      · rcases h5 with h5 | h5
        · rw [h5]; exact hne
        · rw [h5]; simp; omega
  obtain ⟨v', w', hrun, hown, hkeep, hsize⟩ := hrun
  refine wpList_plain hgd fun _ hK => ?_
  unfold Oper.wp execOp
  simp only [ho, resolve, invoke, builtin, Sem.run_bind, Sem.run_pure, Result.andThen_ok, List.map_toArray, List.map_cons, List.map_nil, hs, hx, hrun]
  exact hK _ _ (cont v' w' hown hkeep hsize)
theorem OwnK.lit0 (w : World) (e : TypeId) (k : Nat) : OwnK w.heap.size w (w.alloc (.cells #[] e)) e k (.slice (some ⟨w.heap.size, 0, none⟩) 0 0) [] := by
  refine ⟨?_, by simp, (Below.refl _ _).alloc (Nat.le_refl _) _, by simp⟩
  have := World.ownsRow_lit (base := w.heap.size) (e := e) (size := k) w #[] 0 (Nat.le_refl _) (Nat.zero_le _) (by simp)
  simpa using this
end
theorem bel_alloc {w w' : World} {o : Obj} (h : Below (w.alloc o).heap.size (w.alloc o) w') : Below w.heap.size w w' := ((Below.refl _ _).alloc (Nat.le_refl _) o).trans (h.mono (by simp))
/-- one cell each. -/
def ones (vs : List Value) : List (List Value) := vs.map fun v => [v]
@[simp] theorem ones_length (vs : List Value) : (ones vs).length = vs.length := by simp [ones]
theorem ones_len (vs : List Value) : ∀ r ∈ ones vs, r.length = 1 := by
  intro r hr
  obtain ⟨v, _, rfl⟩ := List.mem_map.1 hr
  rfl
theorem Sl.ones {w : World} {B : Nat} {A : Option Addr} {vs : List Value} (h : Sl w B A vs) : RowsAt w B A 1 (ones vs) := fun hne => by
  obtain ⟨b, off, e, hb, hc⟩ := h (fun e => hne (by rw [e]; rfl))
  refine ⟨b, off, e, hb, fun i r hi j hj => ?_⟩
  simp only [Go.Proofs.YthkdpcoacjgomaaDoor.ones, List.getElem?_map] at hi
  obtain ⟨v, hv, rfl⟩ := Option.map_eq_some_iff.1 hi
  have hil : i < vs.length := by
    rcases Nat.lt_or_ge i vs.length with h1 | h1
    · exact h1
    · rw [List.getElem?_eq_none h1] at hv; cases hv
  obtain rfl : j = 0 := by omega
  rw [Nat.mul_one, Nat.add_zero, hc i hil, hv]
  rfl
theorem RowsAt.sl {w : World} {B : Nat} {A : Option Addr} {vs : List Value} (h : RowsAt w B A 1 (ones vs)) : Sl w B A vs := fun hne => by
  obtain ⟨b, off, e, hb, hc⟩ := h (fun e => hne (by
    have := congrArg List.length e
    rw [ones_length, List.length_nil] at this
    exact List.eq_nil_of_length_eq_zero this))
  refine ⟨b, off, e, hb, fun i hi => ?_⟩
  have := hc i [vs[i]] (by simp [Go.Proofs.YthkdpcoacjgomaaDoor.ones, List.getElem?_eq_getElem hi]) 0 (by omega)
  rw [Nat.mul_one, Nat.add_zero] at this
  rw [this, List.getElem?_eq_getElem hi]
  rfl
/-- two worlds agree at the blocks of S. -/
def Agr (S : Nat → Prop) (w w' : World) : Prop := ∀ b o, S b → w'.cell? ⟨b, o, none⟩ = w.cell? ⟨b, o, none⟩
/-- what reads so hangs on the blocks of S alone. -/
def NewS (S : Nat → Prop) (w : World) (B : Nat) (A : Option Addr) (vs : List Value) : Prop := ∀ w', Agr S w w' → Sl w' B A vs
/-- the blocks from lo on. -/
def Win (lo : Nat) (w : World) : Nat → Prop := fun b => lo ≤ b ∧ b < w.heap.size
section
variable {S S' : Nat → Prop} {w w' w'' : World} {B B' : Nat} {A : Option Addr} {vs : List Value}
theorem Agr.refl_ : Agr S w w := fun _ _ _ => rfl
theorem Agr.trans (h : Agr S w w') (h2 : Agr S w' w'') : Agr S w w'' := fun b o hb => (h2 b o hb).trans (h b o hb)
theorem Agr.sub (h : Agr S' w w') (hs : ∀ b, S b → S' b) : Agr S w w' := fun b o hb => h b o (hs b hb)
theorem NewS.move (h : NewS S w B A vs) (ha : Agr S w w') (hs : ∀ b, S b → S' b) (hB : B ≤ B') : NewS S' w' B' A vs := fun _ hx => (h _ (ha.trans (hx.sub hs))).more hB
theorem NewS.get (h : NewS S w B A vs) : Sl w B A vs := h w Agr.refl_
theorem Below.agr (h : Below B w w') (hs : ∀ b, S b → b < B) : Agr S w w' := fun b o hb => h.cell (p := ⟨b, o, none⟩) (hs b hb)
theorem agr_of_heap (h : ∀ b, S b → w'.heap[b]? = w.heap[b]?) : Agr S w w' := fun b o hb => World.cell?_of_block (h b hb)
/-- a row of the call's own: what it reads hangs on its own block. -/
theorem OwnK.newS {B : Nat} {w0 w : World} {e : TypeId} {A : Option Addr} {n c : Nat} {vs : List Value} (h : OwnK B w0 w e 1 (.slice A n c) (ones vs)) (hS : ∀ g, (Value.slice A n c).ownBlock = some g → S g) : NewS S w w.heap.size A vs := by
  obtain ⟨A', c', hv, -, -, hrow⟩ := h.formB (by omega)
  simp at hv
  obtain ⟨rfl, rfl, rfl⟩ := hv
  intro w' ha hne
  obtain ⟨g, hg, hA, hB, hlt, hc⟩ := hrow (fun e => hne (by
    have := congrArg List.length e
    rw [ones_length, List.length_nil] at this
    exact List.eq_nil_of_length_eq_zero this))
  refine ⟨g, 0, hA, hlt, fun i hi => ?_⟩
  have := hc i [vs[i]] (by simp [ones, List.getElem?_eq_getElem hi]) 0 (by omega)
  rw [Nat.mul_one, Nat.add_zero] at this
  rw [Nat.zero_add, ha g i (hS g hg), this, List.getElem?_eq_getElem hi]
  rfl
end
/-- behind a store into a cell of a block, and a call that changes nothing older. -/
theorem after_set {w w' : World} {n i : Nat} {u x : Value} (hb : Below (w.setCell ⟨n, i, none⟩ u).heap.size (w.setCell ⟨n, i, none⟩ u) w') (hx : w.cell? ⟨n, i, none⟩ = some x) :
    w'.cell? ⟨n, i, none⟩ = some u ∧ (∀ j v, j ≠ i → w.cell? ⟨n, j, none⟩ = some v → w'.cell? ⟨n, j, none⟩ = some v) ∧ (∀ j, w'.frozen? ⟨n, j, none⟩ = w.frozen? ⟨n, j, none⟩) ∧ w.heap.size ≤ w'.heap.size ∧ n < w.heap.size ∧
    (∀ b, b < w.heap.size → b ≠ n → w'.heap[b]? = w.heap[b]?) ∧ (∀ B, B ≤ n → Below B w w') := by
  have hn : n < w.heap.size := World.block_lt_of_cell? _ _ hx
  have hs : (w.setCell ⟨n, i, none⟩ u).heap.size = w.heap.size := by simp [World.setCell]
  rw [hs] at hb
  refine ⟨(hb.cell (p := ⟨n, i, none⟩) hn).trans (World.cell?_setCell_same _ _ _ hx), fun j v hj hv => (hb.cell (p := ⟨n, j, none⟩) hn).trans ((World.cell?_setCell_other _ _ _ _ (by intro e; injection e with _ e; omega)).trans hv), fun j => (hb.frozen (p := ⟨n, j, none⟩) hn).trans (World.frozen?_setCell _ _ _ _), by have := hb.size; rw [hs] at this; exact this, hn, fun b hbl hne => ?_, fun B hB => ?_⟩
  · rw [hb.block b hbl, Below.heap_setCell _ _ _ _ (by simpa using hne)]
  · exact ((Below.refl B w).setCell (show B ≤ n from hB) u).trans (hb.mono (by omega))
theorem OwnK.lit0' (w : World) (e : TypeId) (k n : Nat) (hn : n = w.heap.size) : OwnK w.heap.size w (w.alloc (.cells #[] e)) e k (.slice (some ⟨n, 0, none⟩) 0 0) [] := by subst hn; exact OwnK.lit0 w e k
/-- v is a row of bytes of the call's own (from w0 on) that holds bs; what w0 has stays. -/
def OwB (w0 w : World) (v : Value) (bs : List UInt8) : Prop := OwnK w0.heap.size w0 w 5 1 v (ones (u8s bs))
/-- a block that isn't the row's own stays, and doesn't become the row's. -/
structure Kp (w : World) (v : Value) (w' : World) (v' : Value) : Prop where
  keep : ∀ m, m < w.heap.size → v.ownBlock ≠ some m → w'.heap[m]? = w.heap[m]? ∧ v'.ownBlock ≠ some m
  size : w.heap.size ≤ w'.heap.size
section
variable {w0 w w' w1 w2 : World} {v v' v1 v2 : Value} {bs : List UInt8}
theorem Kp.refl_ : Kp w v w v := ⟨fun _ _ h => ⟨rfl, h⟩, Nat.le_refl _⟩
theorem Kp.trans (h : Kp w v w1 v1) (h2 : Kp w1 v1 w2 v2) : Kp w v w2 v2 := by
  refine ⟨fun m hm hv => ?_, Nat.le_trans h.size h2.size⟩
  obtain ⟨e1, e2⟩ := h.keep m hm hv
  obtain ⟨e3, e4⟩ := h2.keep m (Nat.lt_of_lt_of_le hm h.size) e2
  exact ⟨e3.trans e1, e4⟩
theorem Kp.of_below (h : Below w.heap.size w w') : Kp w v w' v := ⟨fun m hm hv => ⟨h.block m hm, hv⟩, h.size⟩
theorem Kp.alloc (h : Kp w v w1 v1) (o : Obj) : Kp w v (w1.alloc o) v1 := h.trans (.of_below ((Below.refl _ _).alloc (Nat.le_refl _) o))
theorem Kp.drewN (h : Kp w v w1 v1) (n : Nat) : Kp w v (w1.drewN n) v1 := ⟨h.keep, h.size⟩
theorem Kp.cell (h : Kp w v w' v') {b o : Nat} (hb : b < w.heap.size) (hv : v.ownBlock ≠ some b) : w'.cell? ⟨b, o, none⟩ = w.cell? ⟨b, o, none⟩ := World.cell?_of_block (h.keep b hb hv).1
theorem OwB.later (h : OwB w0 w v bs) (hb : Below w.heap.size w w') : OwB w0 w' v bs := OwnK.later h hb
theorem OwB.below (h : OwB w0 w v bs) : Below w0.heap.size w0 w := OwnK.below h
theorem OwB.drewN (h : OwB w0 w v bs) (n : Nat) : OwB w0 (w.drewN n) v bs := OwnK.drewN h n
theorem OwB.new (h : OwB w0 w v bs) {m : Nat} (hm : w.heap.size ≤ m) : v.ownBlock ≠ some m := fun e => by
  have := (OwnK.own_lt h e).2
  omega
theorem OwB.old (h : OwB w0 w v bs) {m : Nat} (hm : m < w0.heap.size) : v.ownBlock ≠ some m := fun e => by
  have := (OwnK.own_lt h e).1
  omega
end
theorem elem_b : ElemK Tryd.prog 5 1 1 := ElemK.mk_ (z := .int .u8 0) (by kernel_rfl) rfl
theorem ones_app (a b : List UInt8) : ones (u8s (a ++ b)) = ones (u8s a) ++ ones (u8s b) := by simp [ones, u8s]
theorem u8_ones (bs : List UInt8) : ∀ r ∈ ones (u8s bs), ∀ u ∈ r, u.oneCell' = true := by
  intro r hr u hu
  obtain ⟨x, hx, rfl⟩ := List.mem_map.1 hr
  simp at hu
  subst hu
  obtain ⟨z, _, rfl⟩ := List.mem_map.1 hx
  rfl
section
variable {P : Program} {B : Nat} {w0 w : World} {e : TypeId} {k : Nat} {v : Value} {rs : List (List Value)}
theorem run_catK (t ty : TypeId) (y : Nat) (ht : P.underlying t = some (.slice e)) (hE : ElemK P e k y) (hk : 0 < k)
    {B' : Nat} {A : Option Addr} {c : Nat} {news : List (List Value)} (h : OwnK B w0 w e k v rs) (hr : RowsAt w B' A k news) (hlen : ∀ r ∈ news, r.length = k)
    (h1 : ∀ r ∈ news, ∀ u ∈ r, u.oneCell' = true) (hby : (rs.length + news.length) * y ≤ 140737488355328) (hmx : rs.length + news.length ≤ maxLen) :
    ∃ v' w', (Builtin.append_ #[t, t] ty #[v, .slice A news.length c]).run P w = .ok v' w' ∧ OwnK B w0 w' e k v' (rs ++ news) ∧ (∀ g, g < w.heap.size → v.ownBlock ≠ some g → w'.heap[g]? = w.heap[g]? ∧ v'.ownBlock ≠ some g) ∧ w.heap.size ≤ w'.heap.size := by
  obtain ⟨i, z, hi, hz, hsz, hyy, hzs⟩ := hE
  have hle := h.le
  rcases A with _ | ad
  · have hn : news = [] := by
      rcases Classical.em (news = []) with h0 | h0
      · exact h0
      · obtain ⟨_, _, h2, _⟩ := hr h0; cases h2
    subst hn
    exact ⟨v, w, run_append_nothingK w B t ty e i k ht hi v _ _ h.row c, by simpa using h, fun g _ hg => ⟨rfl, hg⟩, Nat.le_refl _⟩
  · have hcells : ∀ j u, news.flatten[j]? = some u → w.cell? (ad.add j) = some u := by
      intro j u hj
      have hjl : j < news.length * k := by
        rw [← flatten_len hlen]
        rcases Nat.lt_or_ge j news.flatten.length with h2 | h2
        · exact h2
        · rw [List.getElem?_eq_none h2] at hj; cases hj
      have hil : j / k < news.length := Nat.div_lt_of_lt_mul (by rw [Nat.mul_comm]; exact hjl)
      have hgi : news[j / k]? = some news[j / k] := List.getElem?_eq_getElem hil
      obtain ⟨b, off, h2, _, hc⟩ := hr (fun e => by simp [e] at hil)
      injection h2 with h2
      subst h2
      have hmod : j % k < k := Nat.mod_lt _ hk
      have hjj : j / k * k + j % k = j := by rw [Nat.mul_comm]; exact Nat.div_add_mod j k
      rw [add_at]
      have h3 := hc (j / k) _ hgi (j % k) hmod
      rw [Nat.add_assoc, hjj] at h3
      rw [h3, ← flatten_get hlen hgi hmod, hjj, hj]
    have hone : ∀ u ∈ news.flatten, u.oneCell' = true := by
      intro u hu
      obtain ⟨r, hr1, hr2⟩ := List.mem_flatten.1 hu
      exact h1 r hr1 u hr2
    obtain ⟨v', w', hrun, h2, h3, _, h5⟩ := run_append_own_at (P := P) w B t ty e i z k y ht hi hz hsz hyy hzs hk v rs.length rs.flatten h.row ad news.length c news.flatten (flatten_len hlen) hcells hone hmx hby h.le
    refine ⟨v', w', hrun, ⟨by simpa using h2, fun r hr' => ?_, h.below.grown h3 h.le (fun g hg' => (h.row.lt g hg').1), Nat.le_trans h.le h3.size⟩, fun g hg hne => ⟨h3.block g hg (fun e => hne e.symm), ?_⟩, h3.size⟩
    · rcases List.mem_append.1 hr' with h6 | h6
      · exact h.len r h6
      · exact hlen r h6
    · rcases h5 with h5 | h5
      · rw [h5]; exact hne
      · rw [h5]; simp; omega
end
theorem Sl.byte {w : World} {n : Nat} {b : Nat} {x : UInt8} (h : w.cell? ⟨n, 0, none⟩ = some (.int .u8 b)) (hx : x.toNat = b) : Sl w w.heap.size (some ⟨n, 0, none⟩) (u8s [x]) := fun _ => by
  subst hx
  exact ⟨n, 0, rfl, World.block_lt_of_cell? _ _ h, fun i hi => by
    have : i = 0 := by simpa using hi
    subst this
    rw [Nat.zero_add, h]
    rfl⟩
theorem Sl.newbyte (w : World) (n : Int) (x : UInt8) (h : (x.toNat : Int) = n) (e : TypeId) (m : Nat) (hm : m = w.heap.size) : Sl (w.alloc (.cells #[.int .u8 n] e)) (w.alloc (.cells #[.int .u8 n] e)).heap.size (some ⟨m, 0, none⟩) (u8s [x]) := by
  subst hm
  exact Sl.byte (b := x.toNat) ((World.cell?_alloc_at _ _ _ _ rfl).trans (by rw [h]; rfl)) rfl
/-- 'append(v, x...)', v a row of bytes of the call's own, as an operation by itself. -/
theorem op_bytes {o : Oper} {a : Act} {K : Act → World → Prop} {Q : Exit → Act → World → Prop} {w0 w : World} {v : Value} {bs : List UInt8} (s x : Operand)
    (ho : o.op = .call { callee := .builtin .append, args := #[s, x], argTypes := #[22, 22] }) {B' : Nat} {A : Option Addr} {m c : Nat} (nb : List UInt8) (hs : a.eval s = v) (h : OwB w0 w v bs) (hx : a.eval x = .slice A m c)
    (hr : Sl w B' A (u8s nb)) (hm : nb.length = m) (hl : bs.length + m ≤ 200000000)
    (cont : ∀ v' w', OwB w0 w' v' (bs ++ nb) → Kp w v w' v' → K (a.put o.dst v') w') : Oper.wp Tryd.prog o a w K Q := by
  subst hm
  obtain ⟨v', w', hrun, h2, h3, h4⟩ := run_catK (P := Tryd.prog) (c := c) 22 o.type 1 Tryd.underlying22 elem_b (by decide) h hr.ones (ones_len _) (u8_ones _) (by simp; omega) (by simp; unfold maxLen; omega)
  simp only [ones_length, u8s_length] at hrun
  rw [← ones_app] at h2
  unfold Oper.wp execOp
  simp only [ho, resolve, invoke, builtin, Sem.run_bind, Sem.run_pure, Result.andThen_ok, List.map_toArray, List.map_cons, List.map_nil, hs, hx, hrun]
  exact cont v' w' h2 ⟨h3, h4⟩
/-- the same at the head of a list of operations. -/
theorem wpl_bytes {ops : Array Oper} {rest : List Oper} {o : Oper} {a : Act} {Q : Exit → Act → World → Prop} {w0 w : World} {v : Value} {bs : List UInt8} (hgd : o.guard = none) (s x : Operand)
    (ho : o.op = .call { callee := .builtin .append, args := #[s, x], argTypes := #[22, 22] }) {B' : Nat} {A : Option Addr} {m c : Nat} (nb : List UInt8) (hs : a.eval s = v) (h : OwB w0 w v bs) (hx : a.eval x = .slice A m c)
    (hr : Sl w B' A (u8s nb)) (hm : nb.length = m) (hl : bs.length + m ≤ 200000000)
    (cont : ∀ v' w', OwB w0 w' v' (bs ++ nb) → Kp w v w' v' → wpList Tryd.prog ops Q rest (a.put o.dst v') w') : wpList Tryd.prog ops Q (o :: rest) a w := by
  refine wpList_plain hgd fun _ hK => ?_
  exact op_bytes s x ho nb hs h hx hr hm hl fun v' w' h1 h2 => hK _ _ (cont v' w' h1 h2)
/-- what was there stays, but for the blocks of M. -/
structure Kx (M : Nat → Prop) (w w' : World) : Prop where
  os : w'.os = w.os
  tape : w'.tape = w.tape
  output : w'.output = w.output
  size : w.heap.size ≤ w'.heap.size
  block : ∀ b, b < w.heap.size → ¬ M b → w'.heap[b]? = w.heap[b]?
section
variable {M M' : Nat → Prop} {w w' w1 w2 : World}
theorem Kx.refl_ : Kx M w w := ⟨rfl, rfl, rfl, Nat.le_refl _, fun _ _ _ => rfl⟩
theorem Kx.trans' (h : Kx M w w1) (h2 : Kx M' w1 w2) (hM : ∀ b, M' b → M b ∨ w.heap.size ≤ b) : Kx M w w2 := by
  refine ⟨h2.os.trans h.os, h2.tape.trans h.tape, h2.output.trans h.output, Nat.le_trans h.size h2.size, fun b hb hm => ?_⟩
  rw [h2.block b (Nat.lt_of_lt_of_le hb h.size) (fun hx => by rcases hM b hx with h3 | h3; exact hm h3; omega), h.block b hb hm]
theorem Kx.trans (h : Kx M w w1) (h2 : Kx M w1 w2) : Kx M w w2 := h.trans' h2 fun _ hb => .inl hb
theorem Kx.of_below (h : Below w.heap.size w w') : Kx M w w' := ⟨h.os, h.tape, h.output, h.size, fun b hb _ => h.block b hb⟩
theorem Kx.alloc (h : Kx M w w1) (o : Obj) : Kx M w (w1.alloc o) := h.trans (.of_below ((Below.refl _ _).alloc (Nat.le_refl _) o))
theorem Kx.drewN (h : Kx M w w1) (n : Nat) : Kx M w (w1.drewN n) := ⟨h.os, h.tape, h.output, h.size, h.block⟩
theorem Kx.setCell (h : Kx M w w1) {p : Addr} (hp : M p.block ∨ w.heap.size ≤ p.block) (u : Value) : Kx M w (w1.setCell p u) := by
  refine ⟨by simpa [World.setCell] using h.os, by simpa [World.setCell] using h.tape, by simpa [World.setCell] using h.output, by simpa [World.setCell] using h.size, fun b hb hm => ?_⟩
  rw [Below.heap_setCell _ _ _ _ (fun e => by subst e; rcases hp with h1 | h1; exact hm h1; omega), h.block b hb hm]
theorem Kx.below {B : Nat} (h : Kx M w w') (hB : B ≤ w.heap.size) (hM : ∀ b, M b → B ≤ b) : Below B w w' :=
  ⟨h.os, h.tape, h.output, h.size, fun b hb => h.block b (by omega) (fun hm => by have := hM b hm; omega)⟩
theorem Kx.cell (h : Kx M w w') {b o : Nat} {x : Value} (hm : ¬ M b) (hc : w.cell? ⟨b, o, none⟩ = some x) : w'.cell? ⟨b, o, none⟩ = some x :=
  (World.cell?_of_block (h.block b (World.block_lt_of_cell? _ _ hc) hm)).trans hc
theorem Kx.frozen (h : Kx M w w') {b o : Nat} (hb : b < w.heap.size) (hm : ¬ M b) : w'.frozen? ⟨b, o, none⟩ = w.frozen? ⟨b, o, none⟩ := World.frozen?_of_block (h.block b hb hm)
theorem Kx.mono (h : Kx M w w') (hM : ∀ b, M b → M' b) : Kx M' w w' := ⟨h.os, h.tape, h.output, h.size, fun b hb hm => h.block b hb (fun hx => hm (hM b hx))⟩
end
end Go.Proofs.YthkdpcoacjgomaaDoor
