/- What a module in the making is: its block, the row that grows, and what is done already; single operations of a region on whatever frame. Plain definitions and lemmas, no condition. -/
import Derived.Test.YtmdgemdollfnhaaGreatDoorTreeCp
import Derived.Test.YtmdgemdollfnhaaGreatDoorRegions
namespace Go.Proofs.YtmdgemdollfnhaaGreatDoor
open Go.RowKit Trx

/-! ### What hangs on some blocks alone -/
def Hang (S : Nat → Prop) (w : World) (F : World → Nat → Prop) : Prop := ∀ w' B, w.heap.size ≤ B → Agr S w w' → F w' B
section
variable {S S' : Nat → Prop} {w w' : World} {F G : World → Nat → Prop}
theorem Hang.move (h : Hang S w F) (ha : Agr S w w') (hs : ∀ b, S b → S' b) (hz : w.heap.size ≤ w'.heap.size) : Hang S' w' F := fun w2 B hB h2 => h w2 B (Nat.le_trans hz hB) (ha.trans (h2.sub hs))
theorem Hang.get (h : Hang S w F) : F w w.heap.size := h w _ (Nat.le_refl _) Agr.refl_
theorem Hang.and (h : Hang S w F) (h2 : Hang S w G) : Hang S w (fun w B => F w B ∧ G w B) := fun w' B hB ha => ⟨h w' B hB ha, h2 w' B hB ha⟩
theorem Hang.imp (h : Hang S w F) (hi : ∀ w B, F w B → G w B) : Hang S w G := fun w' B hB ha => hi _ _ (h w' B hB ha)
/-- behind what changes nothing older. -/
theorem Hang.later {lo : Nat} (h : Hang (Win lo w) w F) (hb : Below w.heap.size w w') : Hang (Win lo w') w' F :=
  h.move (Below.agr hb fun _ h => h.2) (fun _ h => ⟨h.1, Nat.lt_of_lt_of_le h.2 hb.size⟩) hb.size
theorem Hang.lower {lo lo' : Nat} (h : Hang (Win lo w) w F) (hl : lo' ≤ lo) : Hang (Win lo' w) w F := h.move Agr.refl_ (fun _ h => ⟨Nat.le_trans hl h.1, h.2⟩) (Nat.le_refl _)
theorem NewF.hang {A : Option Addr} {f : Fo} (h : NewF S w w.heap.size A f) : Hang S w (fun w B => RdS w B A f) := fun w' _ hB ha => (h w' ha).more hB
end

/-- the blocks of what is done. -/
def Sx (lo g0 : Nat) (w : World) (v : Value) : Nat → Prop := fun b => lo ≤ b ∧ b < w.heap.size ∧ b ≠ g0 ∧ v.ownBlock ≠ some b
/-- the module in the making. -/
structure Cm {α : Type} (lo g0 : Nat) (w0 w : World) (v : Value) (vals : List Value) (q : World → Nat → α → Prop) (l : List α) (Ds : List (World → Nat → Prop)) : Prop where
  hlo : lo ≤ g0
  lt : g0 < w.heap.size
  n : vals.length = 11
  cells : ∀ i, i < 11 → w.cell? ⟨g0, i, none⟩ = vals[i]?
  frz : ∀ i, w.frozen? ⟨g0, i, none⟩ = false
  below : Below lo w0 w
  own : v.ownBlock ≠ some g0
  ds : ∀ F ∈ Ds, Hang (Sx lo g0 w v) w F
  els : ∀ x ∈ l, Hang (Sx lo g0 w v) w (fun w B => q w B x)
section
variable {α : Type} {lo g0 : Nat} {w0 w w1 w2 : World} {v v' : Value} {vals : List Value} {q : World → Nat → α → Prop} {l : List α} {Ds : List (World → Nat → Prop)}
theorem Cm.later (h : Cm lo g0 w0 w v vals q l Ds) (hb : Below w.heap.size w w1) : Cm lo g0 w0 w1 v vals q l Ds := by
  have hlt := h.lt
  have hlo := h.hlo
  have hm : ∀ F, Hang (Sx lo g0 w v) w F → Hang (Sx lo g0 w1 v) w1 F := fun F hF => hF.move (Below.agr hb fun _ h => h.2.1) (fun _ h => ⟨h.1, Nat.lt_of_lt_of_le h.2.1 hb.size, h.2.2⟩) hb.size
  exact ⟨hlo, Nat.lt_of_lt_of_le hlt hb.size, h.n, fun i hi => (hb.cell (p := ⟨g0, i, none⟩) hlt).trans (h.cells i hi), fun i => (hb.frozen (p := ⟨g0, i, none⟩) hlt).trans (h.frz i), h.below.trans (hb.mono (by omega)), h.own, fun F hF => hm F (h.ds F hF), fun x hx => hm _ (h.els x hx)⟩
theorem frozen_of_block {b o : Nat} (h : w1.heap[b]? = w.heap[b]?) : w1.frozen? ⟨b, o, none⟩ = w.frozen? ⟨b, o, none⟩ := by
  simp only [World.frozen?, h]
theorem cell_set_self {g i j : Nat} {u x : Value} (hx : w.cell? ⟨g, i, none⟩ = some x) : (w.setCell ⟨g, i, none⟩ u).cell? ⟨g, j, none⟩ = if j = i then some u else w.cell? ⟨g, j, none⟩ := by
  split
  · rename_i e
    subst e
    exact World.cell?_setCell_same _ _ _ hx
  · rename_i e
    exact World.cell?_setCell_other _ _ _ _ (by intro h; injection h with _ h; exact e h.symm)
theorem Cm.push {rs rs' : List (List Value)} {e : TypeId} {k : Nat} {x : α} (h : Cm lo g0 w0 w v vals q l Ds) (ho : OwnK lo w0 w e k v rs) (hb : Below w.heap.size w w1) (hF : Hang (Win w.heap.size w1) w1 (fun w B => q w B x))
    (ho2 : OwnK lo w0 w2 e k v' rs') (hk : ∀ m, m < w1.heap.size → v.ownBlock ≠ some m → w2.heap[m]? = w1.heap[m]? ∧ v'.ownBlock ≠ some m) (hz : w1.heap.size ≤ w2.heap.size) (fi : Nat) (hfi : fi < 11) :
    Cm lo g0 w0 (w2.setCell ⟨g0, fi, none⟩ v') v' (vals.set fi v') q (l ++ [x]) Ds ∧ OwnK lo w0 (w2.setCell ⟨g0, fi, none⟩ v') e k v' rs' := by
  have h1 := h.later hb
  have hlt := h1.lt
  have hlo := h.hlo
  have hlt0 := h.lt
  have hn := h.n
  obtain ⟨hg, hgo⟩ := hk g0 hlt h.own
  have hsz : (w2.setCell ⟨g0, fi, none⟩ v').heap.size = w2.heap.size := by simp [World.setCell]
  have hcg : ∀ i, w2.cell? ⟨g0, i, none⟩ = w1.cell? ⟨g0, i, none⟩ := fun i => World.cell?_of_block hg
  have hfx : w2.cell? ⟨g0, fi, none⟩ = some (vals[fi]'(by omega)) := by rw [hcg, h1.cells fi hfi]; exact List.getElem?_eq_getElem _
  have hmv : ∀ (S : Nat → Prop) F, (∀ b, S b → lo ≤ b ∧ b < w1.heap.size ∧ b ≠ g0 ∧ v.ownBlock ≠ some b) → Hang S w1 F → Hang (Sx lo g0 (w2.setCell ⟨g0, fi, none⟩ v') v') (w2.setCell ⟨g0, fi, none⟩ v') F := fun S F hS hF =>
    hF.move (agr_of_heap fun b hb' => (Below.heap_setCell _ _ _ _ (by simpa using (hS b hb').2.2.1)).trans (hk b (hS b hb').2.1 (hS b hb').2.2.2).1)
      (fun b hb' => ⟨(hS b hb').1, by rw [hsz]; exact Nat.lt_of_lt_of_le (hS b hb').2.1 hz, (hS b hb').2.2.1, (hk b (hS b hb').2.1 (hS b hb').2.2.2).2⟩) (by rw [hsz]; exact hz)
  refine ⟨⟨hlo, by rw [hsz]; omega, by simp [hn], fun i hi => ?_, fun i => (World.frozen?_setCell _ _ _ _).trans ((frozen_of_block hg).trans (h1.frz i)), ho2.below.setCell (p := ⟨g0, fi, none⟩) hlo _, hgo, fun F hF => hmv _ F (fun _ h => h) (h1.ds F hF), fun y hy => ?_⟩, ho2.setOther hlo hgo _ _⟩
  · rw [cell_set_self hfx, List.getElem?_set]
    by_cases e : i = fi
    · subst e
      simp [hn, hi]
    · rw [if_neg e, if_neg (fun h => e h.symm), hcg, h1.cells i hi]
  · rcases List.mem_append.1 hy with hy | hy
    · exact hmv _ _ (fun _ h => h) (h1.els y hy)
    · simp at hy
      subst hy
      refine hmv _ _ (fun b hb' => ⟨by have := hb'.1; omega, hb'.2, by have := hb'.1; omega, fun e => ?_⟩) hF
      have := (ho.own_lt e).2
      have := hb'.1
      omega
/-- a row is done. -/
theorem Cm.fin {e : TypeId} {k y : Nat} {cells : α → List Value} (h : Cm lo g0 w0 w v vals q l Ds) (ho : OwnK lo w0 w e k v (l.map cells)) (hk : 0 < k) (hrb : l.length * y ≤ RB) :
    ∃ s : SL α, s.l = l ∧ v = s.v ∧ ∀ {β : Type} (q' : World → Nat → β → Prop), Cm lo g0 w0 w (.slice none 0 0) vals q' [] ((fun w B => s.ok cells q k y w B) :: Ds) := by
  obtain ⟨A, c, hv, hle, hm, hrow⟩ := ho.formB hk
  rw [List.length_map] at hv hle
  have hsub : ∀ b, Sx lo g0 w v b → Sx lo g0 w (.slice none 0 0) b := fun b hb => ⟨hb.1, hb.2.1, hb.2.2.1, by simp [Value.ownBlock]⟩
  refine ⟨⟨l, A, c⟩, rfl, hv, fun q' => ⟨h.hlo, h.lt, h.n, h.cells, h.frz, h.below, by simp [Value.ownBlock], fun F hF => ?_, by simp⟩⟩
  rcases List.mem_cons.1 hF with rfl | hF
  · intro w' B hB ha
    refine ⟨hle, hm, hrb, fun hne => ?_, fun x hx => h.els x hx w' B hB (ha.sub hsub)⟩
    obtain ⟨g, hg, hA, h1, h2, hc⟩ := hrow hne
    refine ⟨g, 0, hA, by omega, fun i r hi j hj => ?_⟩
    rw [Nat.zero_add, ha g _ ⟨h1, h2, fun e => h.own (by rw [hg, e]), by simp [Value.ownBlock]⟩]
    exact hc i r hi j hj
  · exact (h.ds F hF).move Agr.refl_ hsub (Nat.le_refl _)
end

/-! ### Single operations of a region, on whatever frame -/
section
variable {P : Program} {e : TypeId} {k : Nat} {w : World}
/-- new blocks of one type of cells. -/
def WinT (lo : Nat) (e : TypeId) (w : World) : Nat → Prop := fun b => lo ≤ b ∧ ∃ c f, w.heap[b]? = some (.cells c e f)
theorem WinT.lt {lo : Nat} {e : TypeId} {w : World} {b : Nat} (h : WinT lo e w b) : b < w.heap.size := by
  obtain ⟨-, c, f, h⟩ := h
  rcases Nat.lt_or_ge b w.heap.size with h1 | h1
  · exact h1
  · rw [Array.getElem?_eq_none h1] at h; cases h
theorem Hang.laterT {lo : Nat} {e : TypeId} {w w' : World} {F : World → Nat → Prop} (h : Hang (WinT lo e w) w F) (hb : Below w.heap.size w w') : Hang (WinT lo e w') w' F :=
  h.move (Below.agr hb fun _ h => h.lt) (fun b h2 => ⟨h2.1, by have hlt := h2.lt; obtain ⟨-, c, f, h'⟩ := h2; exact ⟨c, f, by rw [hb.block b hlt]; exact h'⟩⟩) hb.size
theorem Hang.lowerT {lo lo' : Nat} {e : TypeId} {w : World} {F : World → Nat → Prop} (h : Hang (WinT lo e w) w F) (hl : lo' ≤ lo) : Hang (WinT lo' e w) w F := h.move Agr.refl_ (fun _ h => ⟨Nat.le_trans hl h.1, h.2⟩) (Nat.le_refl _)
/-- 'append([]T{}, xs...)': the new row lies in a block of that type. -/
theorem run_catT (t ty : TypeId) (y : Nat) (ht : P.underlying t = some (.slice e)) (hE : ElemK P e k y) (hk : 0 < k) (p : Addr) {B' : Nat} {A : Option Addr} {m c : Nat} {news : List (List Value)}
    (hr : RowsAt w B' A k news) (hlen : ∀ r ∈ news, r.length = k) (hm : news.length = m) (h1 : ∀ r ∈ news, ∀ u ∈ r, u.oneCell' = true) (hby : m * y ≤ 140737488355328) (hmx : m ≤ maxLen) :
    ∃ A' c' w', (Builtin.append_ #[t, t] ty #[.slice (some p) 0 0, .slice A m c]).run P w = .ok (.slice A' m c') w' ∧ m ≤ c' ∧ c' ≤ maxLen ∧ Below w.heap.size w w' ∧ Hang (WinT w.heap.size e w') w' (fun w B => RowsAt w B A' k news) := by
  obtain ⟨i, z, hi, hz, hsz, hyy, hzs⟩ := hE
  subst hm
  by_cases hn : news = []
  · subst hn
    refine ⟨some p, 0, w, ?_, by simp, Nat.zero_le _, Below.refl _ _, fun _ _ _ _ => RowsAt.nil_⟩
    cases A <;> simp [Builtin.append_, run_underlying ht, sizeOf, typeInfo, hi, Builtin.lenOf, Builtin.firstCells, loadCells, loadCellsFrom, storeCells]
  · obtain ⟨b, off, rfl, -, hc⟩ := hr hn
    have hpos : 0 < news.length := List.length_pos_iff.2 hn
    have hcells : ∀ j u, news.flatten[j]? = some u → w.cell? ((⟨b, off, none⟩ : Addr).add j) = some u := by
      intro j u hj
      have hjl : j < news.length * k := by
        rw [← flatten_len hlen]
        rcases Nat.lt_or_ge j news.flatten.length with h2 | h2
        · exact h2
        · rw [List.getElem?_eq_none h2] at hj; cases hj
      have hil : j / k < news.length := Nat.div_lt_of_lt_mul (by rw [Nat.mul_comm]; exact hjl)
      have hgi : news[j / k]? = some news[j / k] := List.getElem?_eq_getElem hil
      have hmod : j % k < k := Nat.mod_lt _ hk
      have hjj : j / k * k + j % k = j := by rw [Nat.mul_comm]; exact Nat.div_add_mod j k
      rw [add_at]
      have h3 := hc (j / k) _ hgi (j % k) hmod
      rw [Nat.add_assoc, hjj] at h3
      rw [h3, ← flatten_get hlen hgi hmod, hjj, hj]
    have hone : ∀ u ∈ news.flatten, u.oneCell' = true := by
      intro u hu
      obtain ⟨r, hr1, hr2⟩ := List.mem_flatten.1 hu
      exact h1 r hr1 u hr2
    have hmx' := hmx
    unfold maxLen at hmx'
    obtain ⟨v', w', hrun, h2, h3, -, h5⟩ := run_append_own_at (P := P) w w.heap.size t ty e i z k y ht hi hz hsz hyy hzs hk (.slice none 0 0) 0 [] (World.ownsRow_nil _ _ _ _) ⟨b, off, none⟩ news.length c news.flatten (flatten_len hlen) hcells hone (by omega) (by rw [Nat.zero_add]; omega) (Nat.le_refl _)
    have hA := run_append_nil (P := P) w t ty e i z ht hi hz ⟨b, off, none⟩ news.length c news.flatten (by rw [hsz]; exact flatten_len hlen) hcells hpos (by omega) (by rw [hyy]; omega)
    have hB := run_append_grow (P := P) w t ty e i z ht hi hz p 0 0 [] (by simp) (by simp) ⟨b, off, none⟩ news.length c news.flatten (by rw [hsz]; exact flatten_len hlen) hcells (by omega) (by omega) (by rw [Nat.zero_add, nextslicecap_zero hpos, hyy]; omega)
    have hown : OwnK w.heap.size w w' e k v' news := by
      refine ⟨by simpa using h2, hlen, (Below.refl _ _).grown h3 (Nat.le_refl _) (fun g hg' => by simp [Value.ownBlock] at hg'), h3.size⟩
    obtain ⟨A', c', hv, hl', hm', hrow⟩ := hown.formB hk
    have hty : ∀ g, v'.ownBlock = some g → ∃ c f, w'.heap[g]? = some (.cells c e f) := fun g hg => by
      rcases hown.row.2 with ⟨rfl, -⟩ | ⟨g', cap, cur, rfl, -, hcur, -⟩
      · simp [Value.ownBlock] at hg
      · simp [Value.ownBlock] at hg
        subst hg
        exact ⟨_, _, hcur⟩
    subst hv
    refine ⟨A', c', w', ?_, hl', hm', hown.below, fun w2 B hB' ha hne => ?_⟩
    · rw [hB]
      rw [hA] at hrun
      simpa using hrun
    · obtain ⟨g, hg, hA', h6, h7, hc'⟩ := hrow hne
      exact ⟨g, 0, hA', by omega, fun i r hi j hj => by rw [Nat.zero_add, ha g _ ⟨h6, hty g hg⟩]; exact hc' i r hi j hj⟩
/-- 'append([]T{}, xs...)'. -/
theorem run_cat0 (t ty : TypeId) (y : Nat) (ht : P.underlying t = some (.slice e)) (hE : ElemK P e k y) (hk : 0 < k) (p : Addr) {B' : Nat} {A : Option Addr} {m c : Nat} {news : List (List Value)}
    (hr : RowsAt w B' A k news) (hlen : ∀ r ∈ news, r.length = k) (hm : news.length = m) (h1 : ∀ r ∈ news, ∀ u ∈ r, u.oneCell' = true) (hby : m * y ≤ 140737488355328) (hmx : m ≤ maxLen) :
    ∃ A' c' w', (Builtin.append_ #[t, t] ty #[.slice (some p) 0 0, .slice A m c]).run P w = .ok (.slice A' m c') w' ∧ m ≤ c' ∧ c' ≤ maxLen ∧ Below w.heap.size w w' ∧ Hang (Win w.heap.size w') w' (fun w B => RowsAt w B A' k news) := by
  obtain ⟨A', c', w', hrun, h2, h3, h4, h5⟩ := run_catT t ty y ht hE hk p (c := c) hr hlen hm h1 hby hmx
  exact ⟨A', c', w', hrun, h2, h3, h4, h5.move Agr.refl_ (fun _ h => ⟨h.1, h.lt⟩) (Nat.le_refl _)⟩
theorem op_catT {o : Oper} {a : Act} {K : Act → World → Prop} {Q : Exit → Act → World → Prop} (s x : Operand) (t : TypeId) (ho : o.op = .call { callee := .builtin .append, args := #[s, x], argTypes := #[t, t] }) (y : Nat) (ht : P.underlying t = some (.slice e)) (hE : ElemK P e k y) (hk : 0 < k) (p : Addr)
    {B' : Nat} {A : Option Addr} {m c : Nat} {news : List (List Value)} (hs : a.eval s = .slice (some p) 0 0) (hx : a.eval x = .slice A m c) (hr : RowsAt w B' A k news) (hlen : ∀ r ∈ news, r.length = k) (hm : news.length = m) (h1 : ∀ r ∈ news, ∀ u ∈ r, u.oneCell' = true) (hby : m * y ≤ 140737488355328) (hmx : m ≤ maxLen)
    (cont : ∀ A' c' w', m ≤ c' → c' ≤ maxLen → Below w.heap.size w w' → Hang (WinT w.heap.size e w') w' (fun w B => RowsAt w B A' k news) → K (a.put o.dst (.slice A' m c')) w') : Oper.wp P o a w K Q := by
  obtain ⟨A', c', w', hrun, h2, h3, h4, h5⟩ := run_catT t o.type y ht hE hk p (c := c) hr hlen hm h1 hby hmx
  unfold Oper.wp execOp
  simp only [ho, resolve, invoke, builtin, Sem.run_bind, Sem.run_pure, Result.andThen_ok, List.map_toArray, List.map_cons, List.map_nil, hs, hx, hrun]
  exact cont A' c' w' h2 h3 h4 h5
theorem op_cat0 {o : Oper} {a : Act} {K : Act → World → Prop} {Q : Exit → Act → World → Prop} (s x : Operand) (t : TypeId) (ho : o.op = .call { callee := .builtin .append, args := #[s, x], argTypes := #[t, t] }) (y : Nat) (ht : P.underlying t = some (.slice e)) (hE : ElemK P e k y) (hk : 0 < k) (p : Addr)
    {B' : Nat} {A : Option Addr} {m c : Nat} {news : List (List Value)} (hs : a.eval s = .slice (some p) 0 0) (hx : a.eval x = .slice A m c) (hr : RowsAt w B' A k news) (hlen : ∀ r ∈ news, r.length = k) (hm : news.length = m) (h1 : ∀ r ∈ news, ∀ u ∈ r, u.oneCell' = true) (hby : m * y ≤ 140737488355328) (hmx : m ≤ maxLen)
    (cont : ∀ A' c' w', m ≤ c' → c' ≤ maxLen → Below w.heap.size w w' → Hang (Win w.heap.size w') w' (fun w B => RowsAt w B A' k news) → K (a.put o.dst (.slice A' m c')) w') : Oper.wp P o a w K Q := by
  obtain ⟨A', c', w', hrun, h2, h3, h4, h5⟩ := run_cat0 t o.type y ht hE hk p (c := c) hr hlen hm h1 hby hmx
  unfold Oper.wp execOp
  simp only [ho, resolve, invoke, builtin, Sem.run_bind, Sem.run_pure, Result.andThen_ok, List.map_toArray, List.map_cons, List.map_nil, hs, hx, hrun]
  exact cont A' c' w' h2 h3 h4 h5
/-- 'append(v, x)', v a row of the call's own, x lies somewhere. -/
theorem op_push {o : Oper} {a : Act} {K : Act → World → Prop} {Q : Exit → Act → World → Prop} {B : Nat} {w0 : World} {v : Value} {rs : List (List Value)} (s x : Operand) (t : TypeId) (ho : o.op = .call { callee := .builtin .append, args := #[s, x], argTypes := #[t, t] }) (y : Nat) (ht : P.underlying t = some (.slice e)) (hE : ElemK P e k y) (hk : 0 < k)
    (row : List Value) (c n : Nat) (hs : a.eval s = v) (h : OwnK B w0 w e k v rs) (hx : a.eval x = .slice (some ⟨n, 0, none⟩) 1 c) (hr : row.length = k) (hcell : ∀ j u, row[j]? = some u → w.cell? ⟨n, j, none⟩ = some u) (h1 : ∀ u ∈ row, u.oneCell' = true) (hby : (rs.length + 1) * y ≤ 140737488355328) (hm : rs.length + 1 ≤ maxLen)
    (cont : ∀ v' w', OwnK B w0 w' e k v' (rs ++ [row]) → (∀ m, m < w.heap.size → v.ownBlock ≠ some m → w'.heap[m]? = w.heap[m]? ∧ v'.ownBlock ≠ some m) → w.heap.size ≤ w'.heap.size → K (a.put o.dst v') w') : Oper.wp P o a w K Q := by
  obtain ⟨i, z, hi, hz, hsz, hyy, hzs⟩ := hE
  obtain ⟨v', w', hrun, h2, h3, _, h5⟩ := run_append_own_at (P := P) w B t o.type e i z k y ht hi hz hsz hyy hzs hk v rs.length rs.flatten h.row ⟨n, 0, none⟩ 1 c row (by simp [hr]) (fun j u hj => by rw [add_at, Nat.zero_add]; exact hcell j u hj) h1 hm hby h.le
  have hown : OwnK B w0 w' e k v' (rs ++ [row]) := by
    refine ⟨by simpa using h2, fun r hr' => ?_, h.below.grown h3 h.le (fun g hg' => (h.row.lt g hg').1), Nat.le_trans h.le h3.size⟩
    rcases List.mem_append.1 hr' with h6 | h6
    · exact h.len r h6
    · simp at h6
      subst h6
      exact hr
  unfold Oper.wp execOp
  simp only [ho, resolve, invoke, builtin, Sem.run_bind, Sem.run_pure, Result.andThen_ok, List.map_toArray, List.map_cons, List.map_nil, hs, hx, hrun]
  refine cont v' w' hown (fun m hm' hne => ⟨h3.block m hm' (fun e => hne e.symm), ?_⟩) h3.size
  rcases h5 with h5 | h5
  · rw [h5]; exact hne
  · rw [h5]; simp; omega
end
theorem ev {a : Act} {j : Nat} {v : Value} (h : a.eval (.tmp j) = v) : a.tmps[j]?.getD undef = v := by
  rw [← h]; simp [Act.eval]
theorem hang_il {lo : Nat} {w : World} {zs : List Int} {A : Option Addr} {c : Nat} (h : Hang (Win lo w) w (fun w B => RowsAt w B A 1 (ones (n64s zs)))) (hle : zs.length ≤ c) (hc : c ≤ maxLen) (hrb : zs.length * 8 ≤ RB) (hi : ∀ z ∈ zs, inI z) : Hang (Win lo w) w (fun w B => (⟨zs, A, c⟩ : IL).ok w B) :=
  fun w' B hB ha => ⟨hle, hc, hrb, hi, (h w' B hB ha).sl⟩
theorem hang_bl {lo : Nat} {w : World} {bs : List UInt8} {A : Option Addr} {c : Nat} (h : Hang (Win lo w) w (fun w B => RowsAt w B A 1 (ones (u8s bs)))) (hle : bs.length ≤ c) (hc : c ≤ maxLen) (hrb : bs.length ≤ RB) : Hang (Win lo w) w (fun w B => (⟨bs, A, c⟩ : BL).ok w B) :=
  fun w' B hB ha => ⟨hle, hc, hrb, (h w' B hB ha).sl⟩
/-- a frame that is not looked at. -/
theorem gen_act {P : Program} {c : Code} {Q : Exit → Act → World → Prop} {w : World} (k N : Nat) {v1 v2 v3 vk : Value} (a : Act) (hs : a.tmps.size = N) (hd : a.defers = []) (h1 : a.eval (.tmp 1) = v1) (h2 : a.eval (.tmp 2) = v2) (h3 : a.eval (.tmp 3) = v3) (hk : a.eval (.tmp k) = vk)
    (H : ∀ a : Act, a.tmps.size = N → a.defers = [] → a.eval (.tmp 1) = v1 → a.eval (.tmp 2) = v2 → a.eval (.tmp 3) = v3 → a.eval (.tmp k) = vk → Code.wp P c Q a w) : Code.wp P c Q a w := H a hs hd h1 h2 h3 hk
theorem elem_byte : ElemK Tryz.prog 5 1 1 := ElemK.mk_ (z := .int .u8 0) (by kernel_rfl) rfl
theorem u8_ones (bs : List UInt8) : ∀ r ∈ ones (u8s bs), ∀ u ∈ r, u.oneCell' = true := by
  intro r hr u hu
  obtain ⟨v, hv, rfl⟩ := List.mem_map.1 hr
  simp at hu
  subst hu
  obtain ⟨z, _, rfl⟩ := List.mem_map.1 hv
  rfl
/-- one instruction that is new: where its lists lie does not hang on what is older. -/
theorem newF_one {lo g : Nat} {w : World} {n : Nd} (h : NewF (Win lo w) w w.heap.size (some ⟨g, 0, none⟩) (ofN [n])) (hg : lo ≤ g) (hg2 : g < w.heap.size) :
    ∃ p, (∀ k, k < 9 → w.cell? ⟨g, k, none⟩ = (insC n p)[k]?) ∧ Hang (Win lo w) w (fun w B => NdOk w B n p) := by
  have key : ∀ w' B, RdS w' B (some ⟨g, 0, none⟩) (ofN [n]) → ∃ p, NdAt w' B n p g 0 := fun w' B h' => by
    obtain ⟨b, o, e, hr⟩ := h' (by simp [ofN])
    injection e with e
    injection e with e1 e2
    subst e1 e2
    obtain ⟨p, hp⟩ := hr.get (i := 0) (n := n) (by simp)
    exact ⟨p, by simpa using hp⟩
  obtain ⟨p, hp⟩ := key _ _ h.get
  have hc : ∀ k, k < 9 → w.cell? ⟨g, k, none⟩ = (insC n p)[k]? := fun k hk => by have := hp.cells k hk; rwa [Nat.zero_add] at this
  refine ⟨p, hc, fun w' B hB ha => ?_⟩
  obtain ⟨p', hp'⟩ := key _ _ (h w' ha)
  have he : ∀ k, k < 9 → (insC n p')[k]? = (insC n p)[k]? := fun k hk => by
    rw [← hc k hk, ← ha g k ⟨hg, hg2⟩]
    have := hp'.cells k hk
    rw [Nat.zero_add] at this
    exact this.symm
  have h5 := he 5 (by omega)
  have h6 := he 6 (by omega)
  have h7 := he 7 (by omega)
  simp [insC] at h5 h6 h7
  have : p' = p := by
    cases p; cases p'
    simp_all
  subst this
  exact hp'.ok.more hB
theorem Copy_one (i : In) (A : Option Addr) (c : Nat) (w : World) (h : RdS w w.heap.size A (ofN [i.n])) (hl : LightN i.n) :
    Calls Tryz.prog 15 #[.slice A 1 c] w fun e w' => ∃ (c' g : Nat) (p : Pl), e = .returned (.slice (some ⟨g, 0, none⟩) 1 c') ∧ w.heap.size ≤ g ∧ g < w'.heap.size ∧ (∀ k, k < 9 → w'.cell? ⟨g, k, none⟩ = (insC i.n p)[k]?) ∧
      Hang (Win w.heap.size w') w' (fun w B => NdOk w B i.n p) ∧ Below w.heap.size w w' := by
  refine (Copy_any _ (ofN [i.n]) A c w (Nat.le_refl _) h (Light.mk fun n hn => by simp at hn; subst hn; exact hl) (by rw [len_ofN]; unfold RB; simp)).mono ?_
  rintro e w' ⟨A', c', rfl, -, -, y3, y4, y5⟩
  obtain ⟨g, rfl, h1, h2⟩ := y5 (by simp)
  obtain ⟨p, h3, h4⟩ := newF_one y3 h1 h2
  exact ⟨c', g, p, rfl, h1, h2, h3, h4, y4⟩
/-- the frame of CopyModule. -/
structure Fm (b0 g0 : Nat) (a : Act) : Prop where
  size : a.tmps.size = 208
  defers : a.defers = []
  e1 : a.eval (.tmp 1) = .pointer (some ⟨b0, 0, none⟩)
  e2 : a.eval (.tmp 2) = .pointer (some ⟨b0 + 1, 0, none⟩)
  e3 : a.eval (.tmp 3) = .pointer (some ⟨g0, 0, none⟩)
/-- the module that is copied: where its box lies. -/
structure CmC (m : Mo) (w0 : World) (b0 : Nat) : Prop where
  lt : b0 < w0.heap.size
  box : ∀ i, i < 11 → w0.cell? ⟨b0, i, none⟩ = m.cells[i]?
  ok : m.ok w0 w0.heap.size
end Go.Proofs.YtmdgemdollfnhaaGreatDoor

/- The frame of the reference's CopyModule, and the bodies of its loops, out of the translation. Plain definitions and lemmas, no condition. -/
namespace Go.Proofs.YtmdgemdollfnhaaGreatDoor
open Go.RowKit Trx

set_option maxRecDepth 100000 in
/-- the frame, slot by slot. -/
@[reducible] def fr (f : Nat → Value) : Act := ⟨#[f 0, f 1, f 2, f 3, f 4, f 5, f 6, f 7, f 8, f 9, f 10, f 11, f 12, f 13, f 14, f 15, f 16, f 17, f 18, f 19, f 20, f 21, f 22, f 23, f 24, f 25, f 26, f 27, f 28, f 29, f 30, f 31, f 32, f 33, f 34, f 35, f 36, f 37, f 38, f 39, f 40, f 41, f 42, f 43, f 44, f 45, f 46, f 47, f 48, f 49, f 50, f 51, f 52, f 53, f 54, f 55, f 56, f 57, f 58, f 59, f 60, f 61, f 62, f 63, f 64, f 65, f 66, f 67, f 68, f 69, f 70, f 71, f 72, f 73, f 74, f 75, f 76, f 77, f 78, f 79, f 80, f 81, f 82, f 83, f 84, f 85, f 86, f 87, f 88, f 89, f 90, f 91, f 92, f 93, f 94, f 95, f 96, f 97, f 98, f 99, f 100, f 101, f 102, f 103, f 104, f 105, f 106, f 107, f 108, f 109, f 110, f 111, f 112, f 113, f 114, f 115, f 116, f 117, f 118, f 119, f 120, f 121, f 122, f 123, f 124, f 125, f 126, f 127, f 128, f 129, f 130, f 131, f 132, f 133, f 134, f 135, f 136, f 137, f 138, f 139, f 140, f 141, f 142, f 143, f 144, f 145, f 146, f 147, f 148, f 149, f 150, f 151, f 152, f 153, f 154, f 155, f 156, f 157, f 158, f 159, f 160, f 161, f 162, f 163, f 164, f 165, f 166, f 167, f 168, f 169, f 170, f 171, f 172, f 173, f 174, f 175, f 176, f 177, f 178, f 179, f 180, f 181, f 182, f 183, f 184, f 185, f 186, f 187, f 188, f 189, f 190, f 191, f 192, f 193, f 194, f 195, f 196, f 197, f 198, f 199, f 200, f 201, f 202, f 203, f 204, f 205, f 206, f 207], []⟩
def loopsOf : Code → List Code
  | .loop c => [c]
  | .seq a b => loopsOf a ++ loopsOf b
  | .block _ c => loopsOf c
  | .scope c => loopsOf c
  | .cond _ a b => loopsOf a ++ loopsOf b
  | _ => []
noncomputable def cmBody (k : Nat) : Code := (((Tryz.f6.body.map loopsOf).getD [])[k]?).getD .skip
set_option maxRecDepth 100000 in
theorem fr_of (a : Act) (h : a.tmps.size = 208) (hd : a.defers = []) : a = fr (fun i => a.eval (.tmp i)) := by
  have h2 : a.tmps = ((List.range 208).map fun i => a.tmps.getD i undef).toArray := by
    apply Array.ext
    · simp [h]
    · intro i h1 h2
      simp [Array.getD, h1]
  obtain ⟨t, d⟩ := a
  simp only at hd h2
  subst hd
  have h3 : (⟨t, []⟩ : Act) = ⟨((List.range 208).map fun i => t.getD i undef).toArray, []⟩ := congrArg (fun x => (⟨x, []⟩ : Act)) h2
  exact h3
end Go.Proofs.YtmdgemdollfnhaaGreatDoor
