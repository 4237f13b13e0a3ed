/- A row of bytes that was laid as '[]byte(const)': full and marked; 'append' to it makes a row of the call's own. Plain definitions and lemmas, no condition. -/
import Derived.Test.YthkdpcoacjgomaaDoorSecB
import Derived.ArgAppend
import Derived.Lib.SlBytesConst
set_option linter.unusedVariables false
set_option linter.unusedSimpArgs false
namespace Go.Proofs.YthkdpcoacjgomaaDoor
open Go.RowKit Trx

/-- bytes that lie from the first cell of a new block on, and may be written. -/
structure Lies (w0 w : World) (g : Nat) (bs : List UInt8) : Prop where
  ge : w0.heap.size ≤ g
  lt : g < w.heap.size
  cell : ∀ i, i < bs.length → w.cell? ⟨g, i, none⟩ = (u8s bs)[i]?
  fr : ∀ i, i < bs.length → w.frozen? ⟨g, i, none⟩ = false
  below : Below w0.heap.size w0 w
/-- a row of the call's own, or a full one in new memory. -/
def OwH (w0 w : World) (v : Value) (bs : List UInt8) : Prop := OwB w0 w v bs ∨ ∃ g, v = .slice (some ⟨g, 0, none⟩) bs.length bs.length ∧ Lies w0 w g bs
section
variable {w0 w w' : World} {v : Value} {bs : List UInt8} {g : Nat}
theorem Lies.later (h : Lies w0 w g bs) (hb : Below w.heap.size w w') : Lies w0 w' g bs :=
  ⟨h.ge, Nat.lt_of_lt_of_le h.lt hb.size, fun i hi => (hb.cell (p := ⟨g, i, none⟩) h.lt).trans (h.cell i hi), fun i hi => (hb.frozen (p := ⟨g, i, none⟩) h.lt).trans (h.fr i hi), h.below.trans (hb.mono (Nat.le_trans h.ge (Nat.le_of_lt h.lt)))⟩
theorem Lies.sl (h : Lies w0 w g bs) : Sl w w.heap.size (some ⟨g, 0, none⟩) (u8s bs) := fun _ => ⟨g, 0, rfl, h.lt, fun i hi => by rw [Nat.zero_add]; exact h.cell i (by simpa using hi)⟩
theorem Lies.base {w00 : World} (h : Lies w0 w g bs) (hb : Below w00.heap.size w00 w0) : Lies w00 w g bs := ⟨Nat.le_trans hb.size h.ge, h.lt, h.cell, h.fr, hb.trans (h.below.mono hb.size)⟩
theorem OwB.lies (h : OwB w0 w v bs) (hne : bs ≠ []) : ∃ g c, v = .slice (some ⟨g, 0, none⟩) bs.length c ∧ bs.length ≤ c ∧ c ≤ maxLen ∧ Lies w0 w g bs := by
  obtain ⟨A, c, e, h1, h2, hrow⟩ := OwnK.formB h (by omega)
  rw [ones_length, u8s_length] at e h1
  obtain ⟨g, hg, rfl, h3, h4, hc⟩ := hrow (fun e => hne (by
    have := congrArg List.length e
    rw [ones_length, u8s_length] at this
    exact List.eq_nil_of_length_eq_zero this))
  subst e
  refine ⟨g, c, rfl, h1, h2, h3, h4, fun i hi => ?_, fun i hi => (by have hr := h.row; rw [ones_length, u8s_length] at hr; exact hr.frozenAt i), OwnK.below h⟩
  have := hc i [(u8s bs)[i]'(by rw [u8s_length]; exact hi)] (by simp [ones, List.getElem?_eq_getElem, hi]) 0 (by omega)
  rw [Nat.mul_one, Nat.add_zero] at this
  rw [this, List.getElem?_eq_getElem (l := u8s bs) (by rw [u8s_length]; exact hi)]
  rfl
theorem OwH.later (h : OwH w0 w v bs) (hb : Below w.heap.size w w') : OwH w0 w' v bs := by
  rcases h with h | ⟨g, e, h⟩
  · exact .inl (OwB.later h hb)
  · exact .inr ⟨g, e, h.later hb⟩
theorem OwH.below (h : OwH w0 w v bs) : Below w0.heap.size w0 w := by
  rcases h with h | ⟨g, e, h⟩
  · exact OwB.below h
  · exact h.below
theorem OwH.lt (h : OwH w0 w v bs) {m : Nat} (hv : v.ownBlock = some m) : w0.heap.size ≤ m ∧ m < w.heap.size := by
  rcases h with h | ⟨g, e, h⟩
  · exact OwnK.own_lt h hv
  · subst e
    simp [Value.ownBlock] at hv
    subst hv
    exact ⟨h.ge, h.lt⟩
theorem OwH.new (h : OwH w0 w v bs) {m : Nat} (hm : w.heap.size ≤ m) : v.ownBlock ≠ some m := fun e => by
  have := (h.lt e).2
  omega
theorem OwH.lies (h : OwH w0 w v bs) (hne : bs ≠ []) (hm : bs.length ≤ maxLen) : ∃ g c, v = .slice (some ⟨g, 0, none⟩) bs.length c ∧ bs.length ≤ c ∧ c ≤ maxLen ∧ Lies w0 w g bs := by
  rcases h with h | ⟨g, e, h⟩
  · exact OwB.lies h hne
  · exact ⟨g, _, e, Nat.le_refl _, hm, h⟩
/-- '[]byte("..")' behind its conversion. -/
theorem Lies.const (w : World) (bs : List UInt8) (C : Array Value) (hC : C = (u8s bs).toArray) (e : TypeId) (k : Nat) (hk : k = bs.length) (n : Nat) (hn : n = w.heap.size) : Lies w (w.alloc (.cells C e (k, k + 1))) n bs := by
  subst hC hk hn
  have hh : (w.alloc (.cells (u8s bs).toArray e (bs.length, bs.length + 1))).heap[w.heap.size]? = some (.cells (u8s bs).toArray e (bs.length, bs.length + 1)) := heap_alloc_new w _
  refine ⟨Nat.le_refl _, by simp, fun i hi => ?_, fun i hi => ?_, (Below.refl _ _).alloc (Nat.le_refl _) _⟩
  · exact (World.cell?_alloc_mark w _ e _ i).trans (by simp)
  · unfold World.frozen?
    rw [hh]
    simp
    omega
end
/-- 'append(v, x...)', x not empty, v a row of the call's own or a full one. -/
theorem wpl_head {ops : Array Oper} {rest : List Oper} {o : Oper} {a : Act} {Q : Exit → Act → World → Prop} {w0 w : World} {v : Value} {bs : List UInt8} (hgd : o.guard = none) (s x : Operand)
    (ho : o.op = .call { callee := .builtin .append, args := #[s, x], argTypes := #[22, 22] }) {B' : Nat} {A : Option Addr} {m c : Nat} (nb : List UInt8) (hs : a.eval s = v) (h : OwH w0 w v bs) (hx : a.eval x = .slice A m c)
    (hr : Sl w B' A (u8s nb)) (hm : nb.length = m) (hne : nb ≠ []) (hl : bs.length + m ≤ 200000000)
    (cont : ∀ v' w', OwB w0 w' v' (bs ++ nb) → Kp w v w' v' → wpList Tryd.prog ops Q rest (a.put o.dst v') w') : wpList Tryd.prog ops Q (o :: rest) a w := by
  rcases h with h | ⟨g, e, h⟩
  · exact wpl_bytes hgd s x ho nb hs h hx hr hm hl cont
  · subst e hm
    obtain ⟨b, off, rfl, hb, hc⟩ := hr (fun e => hne (by
      have := congrArg List.length e
      rw [u8s_length] at this
      exact List.eq_nil_of_length_eq_zero this))
    have hpos : 0 < nb.length := by
      rcases Nat.eq_zero_or_pos nb.length with h0 | h0
      · exact absurd (List.eq_nil_of_length_eq_zero h0) hne
      · exact h0
    obtain ⟨i, z, hi, hz, hsz, hyy, hzs⟩ := elem_b
    obtain ⟨v', w', hrun, r1, r2⟩ := run_append_arg_grows (P := Tryd.prog) w 22 o.type 5 i z 1 1 Tryd.underlying22 hi hz hsz hyy hzs (by decide) ⟨g, 0, none⟩ bs.length bs.length (u8s bs) (by simp)
      (fun j u hj => by
        have hjl : j < bs.length := by
          rcases Nat.lt_or_ge j (u8s bs).length with h2 | h2
          · simpa using h2
          · rw [List.getElem?_eq_none h2] at hj; cases hj
        rw [add_at, Nat.zero_add, h.cell j hjl, hj])
      ⟨b, off, none⟩ nb.length c (u8s nb) (by simp)
      (fun j u hj => by
        have hjl : j < (u8s nb).length := by
          rcases Nat.lt_or_ge j (u8s nb).length with h2 | h2
          · exact h2
          · rw [List.getElem?_eq_none h2] at hj; cases hj
        rw [add_at, hc j hjl, hj]) (by omega) (by unfold maxLen; omega) (by omega)
    have hown : OwB w w' v' (bs ++ nb) := by
      refine ⟨?_, ones_len _, ⟨r2.os, r2.tape, r2.output, r2.size, fun b hb => r2.block b hb (by simp)⟩, r2.size⟩
      rw [flatten_ones, ones_length, u8s_length, List.length_append]
      simpa [u8s] using r1
    refine wpList_plain hgd fun _ hK => ?_
    unfold Oper.wp execOp
    simp only [ho, resolve, invoke, builtin, Sem.run_bind, Sem.run_pure, Result.andThen_ok, List.map_toArray, List.map_cons, List.map_nil, hs, hx, hrun]
    refine hK _ _ (cont v' w' (OwnK.base hown h.below.size h.below) ⟨fun m hm _ => ⟨(OwB.below hown).block m hm, OwB.old hown hm⟩, (OwB.below hown).size⟩)
end Go.Proofs.YthkdpcoacjgomaaDoor
