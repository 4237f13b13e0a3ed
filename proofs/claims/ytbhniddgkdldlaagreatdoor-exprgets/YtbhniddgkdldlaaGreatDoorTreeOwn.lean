/- A row of the call's own whose elements are of several cells: what is owned, and that append adds one; other blocks of the call stay. Plain definitions and lemmas, no condition. -/
import Derived.Test.YtbhniddgkdldlaaGreatDoorTreeW
import Derived.Test.YtbhniddgkdldlaaGreatDoorOwn
set_option linter.unusedVariables false
set_option linter.unusedSimpArgs false
namespace Go.Proofs.YtbhniddgkdldlaaGreatDoor
open Go.RowKit Trx

theorem flatten_len {k : Nat} {rs : List (List Value)} (h : ∀ r ∈ rs, r.length = k) : rs.flatten.length = rs.length * k := by
  induction rs with
  | nil => simp
  | cons r rs ih =>
    rw [List.flatten_cons, List.length_append, ih (fun r hr => h r (List.mem_cons_of_mem _ hr)), h r List.mem_cons_self, List.length_cons]
    rw [Nat.add_mul]; omega
theorem flatten_get {k : Nat} {rs : List (List Value)} (h : ∀ r ∈ rs, r.length = k) {i : Nat} {r : List Value} (hi : rs[i]? = some r) {j : Nat} (hj : j < k) : rs.flatten[i * k + j]? = r[j]? := by
  induction rs generalizing i with
  | nil => simp at hi
  | cons s rs ih =>
    have hs := h s List.mem_cons_self
    rw [List.flatten_cons]
    cases i with
    | zero =>
      simp at hi
      subst hi
      rw [List.getElem?_append_left (by omega)]
      simp
    | succ i =>
      simp at hi
      have e : (i + 1) * k = k + i * k := by rw [Nat.add_mul]; omega
      rw [List.getElem?_append_right (by omega), hs, show (i + 1) * k + j - k = i * k + j by omega]
      exact ih (fun r hr => h r (List.mem_cons_of_mem _ hr)) hi

/-- v is a slice of the call's own (blocks from B on), of element type e (k cells each), holding rs; below B the world is as w0 was. -/
structure OwnK (B : Nat) (w0 w : World) (e : TypeId) (k : Nat) (v : Value) (rs : List (List Value)) : Prop where
  row : w.ownsRow B e k v rs.length rs.flatten
  len : ∀ r ∈ rs, r.length = k
  below : Below B w0 w
  le : B ≤ w.heap.size
/-- an element type: so many cells, so many bytes. -/
def ElemK (P : Program) (e : TypeId) (k y : Nat) : Prop := ∃ i z, P.info? e = some i ∧ i.zero = some z ∧ i.size = k ∧ i.bytes = y ∧ z.cells.size = k
theorem ElemK.mk_ {P : Program} {e : TypeId} {z : Value} {k y : Nat} (h : (P.info? e).map (fun i => (i.zero, i.size, i.bytes)) = some (some z, k, y)) (hz : z.cells.size = k) : ElemK P e k y := by
  obtain ⟨i, h1, h2, h3, h4⟩ := info_parts h
  exact ⟨i, z, h1, h2, h3, h4, hz⟩

section
variable {P : Program} {B : Nat} {w0 w w' : World} {e : TypeId} {k : Nat} {v : Value} {rs : List (List Value)}
theorem OwnK.nil_ (w0 w : World) (e : TypeId) (k : Nat) (hb : Below B w0 w) (hB : B ≤ w.heap.size) : OwnK B w0 w e k (.slice none 0 0) [] :=
  ⟨World.ownsRow_nil _ _ _ _, by simp, hb, hB⟩
theorem OwnK.later (h : OwnK B w0 w e k v rs) (hb : Below w.heap.size w w') : OwnK B w0 w' e k v rs := by
  refine ⟨⟨h.row.1, ?_⟩, h.len, h.below.trans (hb.mono h.le), Nat.le_trans h.le hb.size⟩
  rcases h.row.2 with ⟨rfl, hn⟩ | ⟨g, cap, cur, rfl, hg, hcur, hrest⟩
  · exact .inl ⟨rfl, hn⟩
  · refine .inr ⟨g, cap, cur, rfl, hg, ?_, hrest⟩
    have hlt : g < w.heap.size := by
      rcases Nat.lt_or_ge g w.heap.size with h1 | h1
      · exact h1
      · rw [Array.getElem?_eq_none h1] at hcur; cases hcur
    rw [hb.block g hlt]; exact hcur
theorem OwnK.alloc (h : OwnK B w0 w e k v rs) (o : Obj) : OwnK B w0 (w.alloc o) e k v rs := h.later ((Below.refl _ _).alloc (Nat.le_refl _) o)
theorem OwnK.drewN (h : OwnK B w0 w e k v rs) (n : Nat) : OwnK B w0 (w.drewN n) e k v rs := ⟨h.row, h.len, ⟨h.below.os, h.below.tape, h.below.output, h.below.size, h.below.block⟩, h.le⟩
theorem OwnK.own_lt (h : OwnK B w0 w e k v rs) {g : Nat} (hg : v.ownBlock = some g) : B ≤ g ∧ g < w.heap.size := h.row.lt g hg
theorem OwnK.base {B' : Nat} {w00 : World} (h : OwnK B w0 w e k v rs) (hB : B' ≤ B) (hb : Below B' w00 w0) : OwnK B' w00 w e k v rs := by
  refine ⟨⟨h.row.1, ?_⟩, h.len, hb.trans (h.below.mono hB), Nat.le_trans hB h.le⟩
  rcases h.row.2 with hx | ⟨g, cap, cur, h1, h2, h3⟩
  · exact .inl hx
  · exact .inr ⟨g, cap, cur, h1, by omega, h3⟩
theorem OwnK.setOther (h : OwnK B w0 w e k v rs) {n : Nat} (hn : B ≤ n) (hne : v.ownBlock ≠ some n) (i : Nat) (u : Value) : OwnK B w0 (w.setCell ⟨n, i, none⟩ u) e k v rs := by
  refine ⟨⟨h.row.1, ?_⟩, h.len, h.below.setCell hn u, by have := h.le; simpa [World.setCell] using this⟩
  rcases h.row.2 with hx | ⟨g, cap, cur, rfl, h2, h3, h4⟩
  · exact .inl hx
  · refine .inr ⟨g, cap, cur, rfl, h2, ?_, h4⟩
    rw [Below.heap_setCell _ _ _ _ (by intro e; subst e; exact hne rfl)]
    exact h3
/-- where it lies, and that it reads as its rows. -/
theorem OwnK.form (h : OwnK B w0 w e k v rs) : ∃ A c, v = .slice A rs.length c ∧ rs.length ≤ c ∧ c ≤ maxLen ∧ RowsAt w w.heap.size A k rs := by
  have hrow := h.row
  rcases h.row.2 with ⟨rfl, hn⟩ | ⟨g, cap, cur, rfl, hg, hcur, hle, hm, hsz, htk⟩
  · exact ⟨none, 0, by rw [hn], by omega, Nat.zero_le _, fun hne => absurd (List.eq_nil_of_length_eq_zero hn) hne⟩
  · have hlt : g < w.heap.size := by
      rcases Nat.lt_or_ge g w.heap.size with h1 | h1
      · exact h1
      · rw [Array.getElem?_eq_none h1] at hcur; cases hcur
    refine ⟨_, cap, rfl, hle, hm, fun hne => ⟨g, 0, rfl, hlt, fun i r hi j hj => ?_⟩⟩
    have hil : i < rs.length := by
      rcases Nat.lt_or_ge i rs.length with h1 | h1
      · exact h1
      · rw [List.getElem?_eq_none h1] at hi; cases hi
    have hlt2 : i * k + j < rs.length * k := by
      have : (i + 1) * k ≤ rs.length * k := Nat.mul_le_mul_right _ hil
      rw [Nat.add_mul] at this
      omega
    rw [Nat.zero_add, hrow.cellAt (i * k + j) hlt2, flatten_get h.len hi hj]
/-- the same, with the block: what it reads hangs on that block alone. -/
theorem OwnK.formB (h : OwnK B w0 w e k v rs) (hk : 0 < k) : ∃ A c, v = .slice A rs.length c ∧ rs.length ≤ c ∧ c ≤ maxLen ∧ (rs ≠ [] → ∃ g, v.ownBlock = some g ∧ A = some ⟨g, 0, none⟩ ∧ B ≤ g ∧ g < w.heap.size ∧ ∀ i r, rs[i]? = some r → ∀ j, j < k → w.cell? ⟨g, i * k + j, none⟩ = r[j]?) := by
  have hrow := h.row
  rcases h.row.2 with ⟨rfl, hn⟩ | ⟨g, cap, cur, rfl, hg, hcur, hle, hm, hsz, htk⟩
  · exact ⟨none, 0, by rw [hn], by omega, Nat.zero_le _, fun hne => absurd (List.eq_nil_of_length_eq_zero hn) hne⟩
  · have hlt : g < w.heap.size := by
      rcases Nat.lt_or_ge g w.heap.size with h1 | h1
      · exact h1
      · rw [Array.getElem?_eq_none h1] at hcur; cases hcur
    refine ⟨_, cap, rfl, hle, hm, fun hne => ⟨g, rfl, rfl, hg, hlt, fun i r hi j hj => ?_⟩⟩
    have hil : i < rs.length := by
      rcases Nat.lt_or_ge i rs.length with h1 | h1
      · exact h1
      · rw [List.getElem?_eq_none h1] at hi; cases hi
    have hlt2 : i * k + j < rs.length * k := by
      have : (i + 1) * k ≤ rs.length * k := Nat.mul_le_mul_right _ hil
      rw [Nat.add_mul] at this
      omega
    rw [hrow.cellAt (i * k + j) hlt2, flatten_get h.len hi hj]
/-- 'v = append(v, r)', v a row of the call's own: behind it the row with r; a block that is not v's own stays, and does not become v's own. -/
theorem wpList_pushK {ops : Array Oper} {rest : List Oper} {o : Oper} {a : Act} {Q : Exit → Act → World → Prop} (hgd : o.guard = none) (s x : Operand) (t : TypeId)
    (ho : o.op = .call { callee := .builtin .append, args := #[s, x], argTypes := #[t, t] }) (y : Nat) (ht : P.underlying t = some (.slice e)) (hE : ElemK P e k y) (hk : 0 < k)
    (arr : Array Value) (c n : Nat) (hs : a.eval s = v) (h : OwnK B w0 w e k v rs) (hx : a.eval x = .slice (some ⟨n, 0, none⟩) 1 c) (hn : n = w.heap.size) (hr : arr.size = k) (h1 : ∀ u ∈ arr.toList, u.oneCell' = true) (hby : (rs.length + 1) * y ≤ 140737488355328) (hm : rs.length + 1 ≤ maxLen)
    (cont : ∀ v' w', OwnK B w0 w' e k v' (rs ++ [arr.toList]) → (∀ m, m < w.heap.size → v.ownBlock ≠ some m → w'.heap[m]? = w.heap[m]? ∧ v'.ownBlock ≠ some m) → w.heap.size ≤ w'.heap.size → wpList P ops Q rest (a.put o.dst v') w') :
    wpList P ops Q (o :: rest) a (w.alloc (.cells arr e)) := by
  subst hn
  obtain ⟨i, z, hi, hz, hsz, hyy, hzs⟩ := hE
  have hcells : ∀ j u, arr.toList[j]? = some u → (w.alloc (.cells arr e)).cell? ((⟨w.heap.size, 0, none⟩ : Addr).add j) = some u := by
    intro j u hj
    rw [add_at, Nat.zero_add, World.cell?_alloc_at _ _ _ _ rfl]
    simpa using hj
  have hle := h.le
  obtain ⟨v', w', hrun, h2, h3, _, h5⟩ := run_append_own_at (P := P) (w.alloc (.cells arr e)) B t o.type e i z k y ht hi hz hsz hyy hzs hk v rs.length rs.flatten (h.row.alloc _) ⟨w.heap.size, 0, none⟩ 1 c arr.toList (by simp [hr]) hcells h1 hm hby (by simp; omega)
  have hown : OwnK B w0 w' e k v' (rs ++ [arr.toList]) := by
    refine ⟨by simpa using h2, fun r hr' => ?_, (h.below.alloc h.le _).grown h3 (by simp; omega) (fun g hg' => (h.row.lt g hg').1), ?_⟩
    · rcases List.mem_append.1 hr' with h6 | h6
      · exact h.len r h6
      · simp at h6
        subst h6
        simpa using hr
    · have := h3.size; simp at this; omega
  refine wpList_plain hgd fun _ hK => ?_
  unfold Oper.wp execOp
  simp only [ho, resolve, invoke, builtin, Sem.run_bind, Sem.run_pure, Result.andThen_ok, List.map_toArray, List.map_cons, List.map_nil, hs, hx, hrun]
  refine hK _ _ (cont v' w' hown (fun m hm' hne => ⟨?_, ?_⟩) (by have := h3.size; simp at this; omega))
  · rw [h3.block m (by simp; omega) (fun e => hne e.symm), Below.heap_alloc _ _ _ hm']
  · rcases h5 with h5 | h5
    · rw [h5]; exact hne
    · rw [h5]; simp; omega
theorem run_append_nothingK (w : World) (base : Nat) (t ty e : TypeId) (i : TypeInfo) (size : Nat) (ht : P.underlying t = some (.slice e)) (hi : P.info? e = some i)
    (v : Value) (n : Nat) (xs : List Value) (hown : w.ownsRow base e size v n xs) (c : Nat) : (Builtin.append_ #[t, t] ty #[v, .slice none 0 c]).run P w = .ok v w := run_append_nothing w base t ty e i size ht hi v n xs hown c
/-- 'v = append(v, xs...)', v a row of the call's own, xs whatever reads as rows. -/
theorem wpList_catK {ops : Array Oper} {rest : List Oper} {o : Oper} {a : Act} {Q : Exit → Act → World → Prop} (hgd : o.guard = none) (s x : Operand) (t : TypeId)
    (ho : o.op = .call { callee := .builtin .append, args := #[s, x], argTypes := #[t, t] }) (y : Nat) (ht : P.underlying t = some (.slice e)) (hE : ElemK P e k y) (hk : 0 < k)
    {B' : Nat} {A : Option Addr} {m c : Nat} {news : List (List Value)} (hs : a.eval s = v) (h : OwnK B w0 w e k v rs) (hx : a.eval x = .slice A m c) (hr : RowsAt w B' A k news) (hlen : ∀ r ∈ news, r.length = k) (hm : news.length = m)
    (h1 : ∀ r ∈ news, ∀ u ∈ r, u.oneCell' = true) (hby : (rs.length + m) * y ≤ 140737488355328) (hmx : rs.length + m ≤ maxLen)
    (cont : ∀ v' w', OwnK B w0 w' e k v' (rs ++ news) → (∀ g, g < w.heap.size → v.ownBlock ≠ some g → w'.heap[g]? = w.heap[g]? ∧ v'.ownBlock ≠ some g) → w.heap.size ≤ w'.heap.size → wpList P ops Q rest (a.put o.dst v') w') :
    wpList P ops Q (o :: rest) a w := by
  obtain ⟨i, z, hi, hz, hsz, hyy, hzs⟩ := hE
  subst hm
  have hle := h.le
  have hrun : ∃ v' w', (Builtin.append_ #[t, t] o.type #[v, .slice A news.length c]).run P w = .ok v' w' ∧ OwnK B w0 w' e k v' (rs ++ news) ∧ (∀ g, g < w.heap.size → v.ownBlock ≠ some g → w'.heap[g]? = w.heap[g]? ∧ v'.ownBlock ≠ some g) ∧ w.heap.size ≤ w'.heap.size := by
    rcases A with _ | ad
    · have hn : news = [] := by
        rcases Classical.em (news = []) with h0 | h0
        · exact h0
        · obtain ⟨_, _, h2, _⟩ := hr h0; cases h2
      subst hn
      exact ⟨v, w, run_append_nothingK w B t o.type e i k ht hi v _ _ h.row c, by simpa using h, fun g _ hg => ⟨rfl, hg⟩, Nat.le_refl _⟩
    · have hcells : ∀ j u, news.flatten[j]? = some u → w.cell? (ad.add j) = some u := by
        intro j u hj
        have hjl : j < news.length * k := by
          rw [← flatten_len hlen]
          rcases Nat.lt_or_ge j news.flatten.length with h2 | h2
          · exact h2
          · rw [List.getElem?_eq_none h2] at hj; cases hj
        have hil : j / k < news.length := Nat.div_lt_of_lt_mul (by rw [Nat.mul_comm]; exact hjl)
        have hgi : news[j / k]? = some news[j / k] := List.getElem?_eq_getElem hil
        obtain ⟨b, off, h2, _, hc⟩ := hr (fun e => by simp [e] at hil)
        injection h2 with h2
        subst h2
        have hmod : j % k < k := Nat.mod_lt _ hk
        have hjj : j / k * k + j % k = j := by rw [Nat.mul_comm]; exact Nat.div_add_mod j k
        rw [add_at]
        have h3 := hc (j / k) _ hgi (j % k) hmod
        rw [Nat.add_assoc, hjj] at h3
        rw [h3, ← flatten_get hlen hgi hmod, hjj, hj]
      have hone : ∀ u ∈ news.flatten, u.oneCell' = true := by
        intro u hu
        obtain ⟨r, hr1, hr2⟩ := List.mem_flatten.1 hu
        exact h1 r hr1 u hr2
      obtain ⟨v', w', hrun, h2, h3, _, h5⟩ := run_append_own_at (P := P) w B t o.type e i z k y ht hi hz hsz hyy hzs hk v rs.length rs.flatten h.row ad news.length c news.flatten (flatten_len hlen) hcells hone hmx hby h.le
      refine ⟨v', w', hrun, ⟨by simpa using h2, fun r hr' => ?_, h.below.grown h3 h.le (fun g hg' => (h.row.lt g hg').1), Nat.le_trans h.le h3.size⟩, fun g hg hne => ⟨h3.block g hg (fun e => hne e.symm), ?_⟩, h3.size⟩
      · rcases List.mem_append.1 hr' with h6 | h6
        · exact h.len r h6
        · exact hlen r h6
      · rcases h5 with h5 | h5
        · rw [h5]; exact hne
        · rw [h5]; simp; omega
  obtain ⟨v', w', hrun, hown, hkeep, hsize⟩ := hrun
  refine wpList_plain hgd fun _ hK => ?_
  unfold Oper.wp execOp
  simp only [ho, resolve, invoke, builtin, Sem.run_bind, Sem.run_pure, Result.andThen_ok, List.map_toArray, List.map_cons, List.map_nil, hs, hx, hrun]
  exact hK _ _ (cont v' w' hown hkeep hsize)
theorem OwnK.lit0 (w : World) (e : TypeId) (k : Nat) : OwnK w.heap.size w (w.alloc (.cells #[] e)) e k (.slice (some ⟨w.heap.size, 0, none⟩) 0 0) [] := by
  refine ⟨?_, by simp, (Below.refl _ _).alloc (Nat.le_refl _) _, by simp⟩
  have := World.ownsRow_lit (base := w.heap.size) (e := e) (size := k) w #[] 0 (Nat.le_refl _) (Nat.zero_le _) (by simp)
  simpa using this
end
theorem bel_alloc {w w' : World} {o : Obj} (h : Below (w.alloc o).heap.size (w.alloc o) w') : Below w.heap.size w w' := ((Below.refl _ _).alloc (Nat.le_refl _) o).trans (h.mono (by simp))
/-- one cell each. -/
def ones (vs : List Value) : List (List Value) := vs.map fun v => [v]
@[simp] theorem ones_length (vs : List Value) : (ones vs).length = vs.length := by simp [ones]
theorem ones_len (vs : List Value) : ∀ r ∈ ones vs, r.length = 1 := by
  intro r hr
  obtain ⟨v, _, rfl⟩ := List.mem_map.1 hr
  rfl
theorem Sl.ones {w : World} {B : Nat} {A : Option Addr} {vs : List Value} (h : Sl w B A vs) : RowsAt w B A 1 (ones vs) := fun hne => by
  obtain ⟨b, off, e, hb, hc⟩ := h (fun e => hne (by rw [e]; rfl))
  refine ⟨b, off, e, hb, fun i r hi j hj => ?_⟩
  simp only [Go.Proofs.YtbhniddgkdldlaaGreatDoor.ones, List.getElem?_map] at hi
  obtain ⟨v, hv, rfl⟩ := Option.map_eq_some_iff.1 hi
  have hil : i < vs.length := by
    rcases Nat.lt_or_ge i vs.length with h1 | h1
    · exact h1
    · rw [List.getElem?_eq_none h1] at hv; cases hv
  obtain rfl : j = 0 := by omega
  rw [Nat.mul_one, Nat.add_zero, hc i hil, hv]
  rfl
theorem RowsAt.sl {w : World} {B : Nat} {A : Option Addr} {vs : List Value} (h : RowsAt w B A 1 (ones vs)) : Sl w B A vs := fun hne => by
  obtain ⟨b, off, e, hb, hc⟩ := h (fun e => hne (by
    have := congrArg List.length e
    rw [ones_length, List.length_nil] at this
    exact List.eq_nil_of_length_eq_zero this))
  refine ⟨b, off, e, hb, fun i hi => ?_⟩
  have := hc i [vs[i]] (by simp [Go.Proofs.YtbhniddgkdldlaaGreatDoor.ones, List.getElem?_eq_getElem hi]) 0 (by omega)
  rw [Nat.mul_one, Nat.add_zero] at this
  rw [this, List.getElem?_eq_getElem hi]
  rfl
end Go.Proofs.YtbhniddgkdldlaaGreatDoor
