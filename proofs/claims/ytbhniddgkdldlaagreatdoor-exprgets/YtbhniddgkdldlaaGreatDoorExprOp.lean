/- 'append' to a row of bytes of the call's own, as an operation by itself. Plain lemmas, no condition. -/
import Derived.Test.YtbhniddgkdldlaaGreatDoorExprP
import Derived.Test.YtbhniddgkdldlaaGreatDoorRegions
set_option linter.unusedVariables false
set_option linter.unusedSimpArgs false
namespace Go.Proofs.YtbhniddgkdldlaaGreatDoor
open Go.RowKit Trx

section
variable {P : Program} {B : Nat} {w0 w : World} {e : TypeId} {k : Nat} {v : Value} {rs : List (List Value)}
theorem run_catK (t ty : TypeId) (y : Nat) (ht : P.underlying t = some (.slice e)) (hE : ElemK P e k y) (hk : 0 < k)
    {B' : Nat} {A : Option Addr} {c : Nat} {news : List (List Value)} (h : OwnK B w0 w e k v rs) (hr : RowsAt w B' A k news) (hlen : ∀ r ∈ news, r.length = k)
    (h1 : ∀ r ∈ news, ∀ u ∈ r, u.oneCell' = true) (hby : (rs.length + news.length) * y ≤ 140737488355328) (hmx : rs.length + news.length ≤ maxLen) :
    ∃ v' w', (Builtin.append_ #[t, t] ty #[v, .slice A news.length c]).run P w = .ok v' w' ∧ OwnK B w0 w' e k v' (rs ++ news) ∧ (∀ g, g < w.heap.size → v.ownBlock ≠ some g → w'.heap[g]? = w.heap[g]? ∧ v'.ownBlock ≠ some g) ∧ w.heap.size ≤ w'.heap.size := by
  obtain ⟨i, z, hi, hz, hsz, hyy, hzs⟩ := hE
  have hle := h.le
  rcases A with _ | ad
  · have hn : news = [] := by
      rcases Classical.em (news = []) with h0 | h0
      · exact h0
      · obtain ⟨_, _, h2, _⟩ := hr h0; cases h2
    subst hn
    exact ⟨v, w, run_append_nothingK w B t ty e i k ht hi v _ _ h.row c, by simpa using h, fun g _ hg => ⟨rfl, hg⟩, Nat.le_refl _⟩
  · have hcells : ∀ j u, news.flatten[j]? = some u → w.cell? (ad.add j) = some u := by
      intro j u hj
      have hjl : j < news.length * k := by
        rw [← flatten_len hlen]
        rcases Nat.lt_or_ge j news.flatten.length with h2 | h2
        · exact h2
        · rw [List.getElem?_eq_none h2] at hj; cases hj
      have hil : j / k < news.length := Nat.div_lt_of_lt_mul (by rw [Nat.mul_comm]; exact hjl)
      have hgi : news[j / k]? = some news[j / k] := List.getElem?_eq_getElem hil
      obtain ⟨b, off, h2, _, hc⟩ := hr (fun e => by simp [e] at hil)
      injection h2 with h2
      subst h2
      have hmod : j % k < k := Nat.mod_lt _ hk
      have hjj : j / k * k + j % k = j := by rw [Nat.mul_comm]; exact Nat.div_add_mod j k
      rw [add_at]
      have h3 := hc (j / k) _ hgi (j % k) hmod
      rw [Nat.add_assoc, hjj] at h3
      rw [h3, ← flatten_get hlen hgi hmod, hjj, hj]
    have hone : ∀ u ∈ news.flatten, u.oneCell' = true := by
      intro u hu
      obtain ⟨r, hr1, hr2⟩ := List.mem_flatten.1 hu
      exact h1 r hr1 u hr2
    obtain ⟨v', w', hrun, h2, h3, _, h5⟩ := run_append_own_at (P := P) w B t ty e i z k y ht hi hz hsz hyy hzs hk v rs.length rs.flatten h.row ad news.length c news.flatten (flatten_len hlen) hcells hone hmx hby h.le
    refine ⟨v', w', hrun, ⟨by simpa using h2, fun r hr' => ?_, h.below.grown h3 h.le (fun g hg' => (h.row.lt g hg').1), Nat.le_trans h.le h3.size⟩, fun g hg hne => ⟨h3.block g hg (fun e => hne e.symm), ?_⟩, h3.size⟩
    · rcases List.mem_append.1 hr' with h6 | h6
      · exact h.len r h6
      · exact hlen r h6
    · rcases h5 with h5 | h5
      · rw [h5]; exact hne
      · rw [h5]; simp; omega
end
theorem Sl.byte {w : World} {n : Nat} {b : Nat} {x : UInt8} (h : w.cell? ⟨n, 0, none⟩ = some (.int .u8 b)) (hx : x.toNat = b) : Sl w w.heap.size (some ⟨n, 0, none⟩) (u8s [x]) := fun _ => by
  subst hx
  exact ⟨n, 0, rfl, World.block_lt_of_cell? _ _ h, fun i hi => by
    have : i = 0 := by simpa using hi
    subst this
    rw [Nat.zero_add, h]
    rfl⟩
theorem Sl.newbyte (w : World) (n : Int) (x : UInt8) (h : (x.toNat : Int) = n) (e : TypeId) (m : Nat) (hm : m = w.heap.size) : Sl (w.alloc (.cells #[.int .u8 n] e)) (w.alloc (.cells #[.int .u8 n] e)).heap.size (some ⟨m, 0, none⟩) (u8s [x]) := by
  subst hm
  exact Sl.byte (b := x.toNat) ((World.cell?_alloc_at _ _ _ _ rfl).trans (by rw [h]; rfl)) rfl
/-- 'append(v, x...)', v a row of bytes of the call's own, as an operation by itself. -/
theorem op_bytes {o : Oper} {a : Act} {K : Act → World → Prop} {Q : Exit → Act → World → Prop} {w0 w : World} {v : Value} {bs : List UInt8} (s x : Operand)
    (ho : o.op = .call { callee := .builtin .append, args := #[s, x], argTypes := #[26, 26] }) {B' : Nat} {A : Option Addr} {m c : Nat} (nb : List UInt8) (hs : a.eval s = v) (h : OwB w0 w v bs) (hx : a.eval x = .slice A m c)
    (hr : Sl w B' A (u8s nb)) (hm : nb.length = m) (hl : bs.length + m ≤ 200000000)
    (cont : ∀ v' w', OwB w0 w' v' (bs ++ nb) → Kp w v w' v' → K (a.put o.dst v') w') : Oper.wp Tryz.prog o a w K Q := by
  subst hm
  obtain ⟨v', w', hrun, h2, h3, h4⟩ := run_catK (P := Tryz.prog) (c := c) 26 o.type 1 Tryz.underlying26 elem_b (by decide) h hr.ones (ones_len _) (u8_ones _) (by simp; omega) (by simp; unfold maxLen; omega)
  simp only [ones_length, u8s_length] at hrun
  rw [← ones_app] at h2
  unfold Oper.wp execOp
  simp only [ho, resolve, invoke, builtin, Sem.run_bind, Sem.run_pure, Result.andThen_ok, List.map_toArray, List.map_cons, List.map_nil, hs, hx, hrun]
  exact cont v' w' h2 ⟨h3, h4⟩
/-- the same at the head of a list of operations. -/
theorem wpl_bytes {ops : Array Oper} {rest : List Oper} {o : Oper} {a : Act} {Q : Exit → Act → World → Prop} {w0 w : World} {v : Value} {bs : List UInt8} (hgd : o.guard = none) (s x : Operand)
    (ho : o.op = .call { callee := .builtin .append, args := #[s, x], argTypes := #[26, 26] }) {B' : Nat} {A : Option Addr} {m c : Nat} (nb : List UInt8) (hs : a.eval s = v) (h : OwB w0 w v bs) (hx : a.eval x = .slice A m c)
    (hr : Sl w B' A (u8s nb)) (hm : nb.length = m) (hl : bs.length + m ≤ 200000000)
    (cont : ∀ v' w', OwB w0 w' v' (bs ++ nb) → Kp w v w' v' → wpList Tryz.prog ops Q rest (a.put o.dst v') w') : wpList Tryz.prog ops Q (o :: rest) a w := by
  refine wpList_plain hgd fun _ hK => ?_
  exact op_bytes s x ho nb hs h hx hr hm hl fun v' w' h1 h2 => hK _ _ (cont v' w' h1 h2)
end Go.Proofs.YtbhniddgkdldlaaGreatDoor
