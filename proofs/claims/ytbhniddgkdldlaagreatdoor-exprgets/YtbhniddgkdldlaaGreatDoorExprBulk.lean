/- A slice of instructions among the arguments, opened: how many instructions and labels it has is no more than its reading's bulk. Plain lemmas, no condition. -/
import Derived.Test.YtbhniddgkdldlaaGreatDoorExprM
import Derived.Test.YtbhniddgkdldlaaGreatDoorTreeRd
set_option linter.unusedVariables false
set_option linter.unusedSimpArgs false
namespace Go.Proofs.YtbhniddgkdldlaaGreatDoor
open Go.RowKit Go.ChangeShapes Go.WideShapes Go.Deep Trx

section
variable {H : Type}
theorem bulk_pos (d : DataW H) : 1 ≤ Rows.uptoBulk d := by
  cases d with
  | lit l => cases l <;> simp [Rows.uptoBulk]
  | _ => simp [Rows.uptoBulk]
theorem bulk_len (l : List (DataW H)) : l.length ≤ Rows.uptoBulkAll l := by
  induction l with
  | nil => simp [Rows.uptoBulkAll]
  | cons d l ih => have := bulk_pos d; simp only [Rows.uptoBulkAll, List.length_cons]; omega
theorem bulk_three {l : List (DataW H)} {a b c : DataW H} (h5 : l[5]? = some a) (h6 : l[6]? = some b) (h7 : l[7]? = some c) : Rows.uptoBulk a + Rows.uptoBulk b + Rows.uptoBulk c ≤ Rows.uptoBulkAll l := by
  match l, h5, h6, h7 with
  | _ :: _ :: _ :: _ :: _ :: x5 :: x6 :: x7 :: r, h5, h6, h7 =>
    simp at h5 h6 h7
    subst h5 h6 h7
    simp only [Rows.uptoBulkAll]
    omega
  | [], h5, _, _ => simp at h5
  | [_], h5, _, _ => simp at h5
  | [_, _], h5, _, _ => simp at h5
  | [_, _, _], h5, _, _ => simp at h5
  | [_, _, _, _], h5, _, _ => simp at h5
  | [_, _, _, _, _], h5, _, _ => simp at h5
  | [_, _, _, _, _, _], _, h6, _ => simp at h6
  | [_, _, _, _, _, _, _], _, _, h7 => simp at h7
theorem bulk_sum : ∀ (ns : List Nd) (es : List (DataW H)), (∀ (i : Nat) (n : Nd), ns[i]? = some n → ∃ e, es[i]? = some e ∧ 1 + n.L.length + wt n.body + wt n.els ≤ Rows.uptoBulk e) → wt (ofN ns) ≤ Rows.uptoBulkAll es
  | [], es, _ => by simp [ofN, wt]
  | n :: ns, es, h => by
    obtain ⟨e, he, hw⟩ := h 0 n rfl
    cases es with
    | nil => simp at he
    | cons e' es =>
      simp at he
      subst he
      have := bulk_sum ns es (fun i m hm => by simpa using h (i + 1) m (by simpa using hm))
      simp only [ofN, wt, Rows.uptoBulkAll]
      omega
end
section
variable {H : Type} {enc : TypeId × Value → H} {w : World} {base : Nat} {spare : Nat → Bool} {held : Bool}
theorem open_fieldsB {P : Program} {e : TypeId} {fs : Array Field} {fuel : Nat} {cs : List Value} {x : DataW H × List MemPlace} (he : P.underlying e = some (.struct fs))
    (hone : oneCellFields P fs = true) (hC : P.cellsOf e = fs.size) (h : DataW.trod enc P w base spare held fuel e cs = some x) :
    ∃ (n : Nat) (ys : List (DataW H × List MemPlace)), fuel = n + 1 ∧ x.1 = .agg (ys.map (·.1)) ∧ cs.length = fs.size ∧ ∀ (j : Nat) (f : Field), fs[j]? = some f → ∃ v y, cs[j]? = some v ∧ ys[j]? = some y ∧ DataW.trod enc P w base spare held n f.type [v] = some y := by
  obtain ⟨ys, n', hn', hy, hlen, hyl, hf⟩ := DataW.trod_struct he h
  refine ⟨n', ys, hn', by rw [hy], hlen.trans hC, fun j f hj => ?_⟩
  obtain ⟨ho, hk⟩ := hone_of hone j f hj
  have hjl : j < fs.size := (Array.getElem?_eq_some_iff.1 hj).1
  have hlc := hlen.trans hC
  have h1 := hf j f hj
  rw [ho, hk] at h1
  have hone' : (cs.drop j).take 1 = [cs[j]'(by omega)] := by
    rw [List.drop_eq_getElem_cons (by omega)]
    rfl
  rw [hone'] at h1
  have hys : ys[j]? = some (ys[j]'(by omega)) := List.getElem?_eq_getElem (by omega)
  exact ⟨cs[j]'(by omega), _, List.getElem?_eq_getElem (by omega), hys, h1.trans hys⟩
theorem open_n64B {fuel : Nat} {cs : List Value} {x : DataW H × List MemPlace} (h : DataW.trod enc Tryz.prog w base spare held fuel 47 cs = some x) :
    ∃ A zs c, cs = [.slice A zs.length c] ∧ zs.length ≤ c ∧ c ≤ maxLen ∧ (∀ z ∈ zs, inI z) ∧ Sl w w.heap.size A (n64s zs) ∧ zs.length ≤ Rows.uptoBulk x.1 := by
  obtain ⟨A, zs, c, hcs, h1, h2, h3, h4⟩ := open_n64 h
  refine ⟨A, zs, c, hcs, h1, h2, h3, h4, ?_⟩
  rcases DataW.trod_slice Tryz.underlying47 h with ⟨h0, -⟩ | ⟨a, l, cap, elems, rest, n, hn, hcs', hx, -, -, -, hlen, -, -, -⟩
  · rw [hcs] at h0
    simp at h0
    omega
  · rw [hcs] at hcs'
    simp at hcs'
    have := bulk_len (elems.map (·.1))
    rw [List.length_map] at this
    rw [hx]
    simp only [Rows.uptoBulk]
    omega
theorem open_nd_ofB (N : Nat) (ih : ∀ m, m < N → ∀ (cs : List Value) (x : DataW H × List MemPlace), DataW.trod enc Tryz.prog w base spare held m 22 cs = some x → ∃ A f c, cs = [.slice A (len f) c] ∧ len f ≤ c ∧ c ≤ maxLen ∧ RdS w w.heap.size A f ∧ wt f ≤ Rows.uptoBulk x.1)
    {fuel : Nat} (hN : fuel ≤ N) {cs : List Value} {x : DataW H × List MemPlace} (h : DataW.trod enc Tryz.prog w base spare held fuel 49 cs = some x) :
    ∃ nd p, cs = (insC nd p).toList ∧ NdOk w w.heap.size nd p ∧ 1 + nd.L.length + wt nd.body + wt nd.els ≤ Rows.uptoBulk x.1 := by
  obtain ⟨n, ys, hn, hx, hl, hf⟩ := open_fieldsB Tryz.underlying49 (by kernel_rfl) (by kernel_rfl) h
  have hl9 : cs.length = 9 := hl
  obtain ⟨v0, y0, c0, -, t0⟩ := hf 0 _ rfl
  obtain ⟨v1, y1, c1, -, t1⟩ := hf 1 _ rfl
  obtain ⟨v2, y2, c2, -, t2⟩ := hf 2 _ rfl
  obtain ⟨v3, y3, c3, -, t3⟩ := hf 3 _ rfl
  obtain ⟨v4, y4, c4, -, t4⟩ := hf 4 _ rfl
  obtain ⟨v5, y5, c5, g5, t5⟩ := hf 5 _ rfl
  obtain ⟨v6, y6, c6, g6, t6⟩ := hf 6 _ rfl
  obtain ⟨v7, y7, c7, g7, t7⟩ := hf 7 _ rfl
  obtain ⟨v8, y8, c8, -, t8⟩ := hf 8 _ rfl
  clear hf hl
  obtain ⟨op, e0, -, w0⟩ := DataW.trod_int (k := .i64) Tryz.underlying3 t0
  obtain ⟨a, e1, -, w1⟩ := DataW.trod_int (k := .i64) Tryz.underlying3 t1
  obtain ⟨b, e2, -, w2⟩ := DataW.trod_int (k := .i64) Tryz.underlying3 t2
  obtain ⟨v, e3, -, w3⟩ := DataW.trod_int (k := .u64) Tryz.underlying46 t3
  obtain ⟨t, e4, -, w4⟩ := DataW.trod_int (k := .i64) Tryz.underlying3 t4
  obtain ⟨AL, zs, cL, e5, l5, m5, z5, s5, b5⟩ := open_n64B t5
  obtain ⟨Ab, fb, cb, e6, l6, m6, s6, b6⟩ := ih n (by omega) _ _ t6
  obtain ⟨Ae, fe, ce, e7, l7, m7, s7, b7⟩ := ih n (by omega) _ _ t7
  obtain ⟨he, e8, -⟩ := DataW.trod_bool Tryz.underlying4 t8
  injection e0 with e0; injection e1 with e1; injection e2 with e2; injection e3 with e3; injection e4 with e4
  injection e5 with e5; injection e6 with e6; injection e7 with e7; injection e8 with e8
  subst e0 e1 e2 e3 e4 e5 e6 e7 e8
  refine ⟨⟨op, a, b, v, t, zs, fb, fe, he⟩, ⟨AL, cL, Ab, cb, Ae, ce⟩, ?_, ⟨⟨inI_of w0, inI_of w1, inI_of w2, inU_of w3, inI_of w4, z5, l5, m5, s5, l6, m6, l7, m7⟩, s6, s7⟩, ?_⟩
  · match cs, hl9, c0, c1, c2, c3, c4, c5, c6, c7, c8 with
    | [_, _, _, _, _, _, _, _, _], _, c0, c1, c2, c3, c4, c5, c6, c7, c8 =>
      simp at c0 c1 c2 c3 c4 c5 c6 c7 c8
      subst c0 c1 c2 c3 c4 c5 c6 c7 c8
      rfl
  · have := bulk_three (l := ys.map (·.1)) (a := y5.1) (b := y6.1) (c := y7.1) (by rw [List.getElem?_map, g5]; rfl) (by rw [List.getElem?_map, g6]; rfl) (by rw [List.getElem?_map, g7]; rfl)
    rw [hx]
    simp only [Rows.uptoBulk]
    omega
/-- a slice of instructions. -/
theorem open_insB (fuel : Nat) : ∀ (cs : List Value) (x : DataW H × List MemPlace), DataW.trod enc Tryz.prog w base spare held fuel 22 cs = some x →
    ∃ A f c, cs = [.slice A (len f) c] ∧ len f ≤ c ∧ c ≤ maxLen ∧ RdS w w.heap.size A f ∧ wt f ≤ Rows.uptoBulk x.1 := by
  induction fuel using Nat.strongRecOn with
  | ind fuel ih =>
    intro cs x h
    rcases DataW.trod_slice Tryz.underlying22 h with ⟨h0, -⟩ | ⟨a, l, cap, elems, rest, n, hn, hcs, hx, hb, hl, hm, hlen, hel, -, -⟩
    · exact ⟨none, .nil, 0, h0, Nat.le_refl _, Nat.zero_le _, RdS.nil_, Nat.zero_le _⟩
    · have hC : Tryz.prog.cellsOf 49 = 9 := by kernel_rfl
      rw [hC] at hel
      have hone : ∀ i, i < l → ∃ nd : Nd, ∃ p, (∀ k, k < 9 → w.cell? ((a.add (i * 9)).add k) = (insC nd p)[k]?) ∧ NdOk w w.heap.size nd p ∧ ∃ e, (elems.map (·.1))[i]? = some e ∧ 1 + nd.L.length + wt nd.body + wt nd.els ≤ Rows.uptoBulk e := by
        intro i hi
        have h1 := hel i hi
        have hge : elems[i]? = some (elems[i]'(by omega)) := List.getElem?_eq_getElem (by omega)
        rw [hge, Option.bind_eq_some_iff] at h1
        obtain ⟨cs', h2, h3⟩ := h1
        obtain ⟨nd, p, rfl, hok, hbk⟩ := open_nd_ofB fuel (fun m hm' cs x => ih m hm' cs x) (by omega) h3
        refine ⟨nd, p, fun k hk => ?_, hok, _, by rw [List.getElem?_map, hge]; rfl, hbk⟩
        rw [(cells_at h2).2 k hk]
        simp
      obtain ⟨ns, hns, hq⟩ := list_of l hone
      have hwt : wt (ofN ns) ≤ Rows.uptoBulk x.1 := by
        have := bulk_sum ns (elems.map (·.1)) (fun i m hm => by obtain ⟨p, -, -, h3⟩ := hq i m hm; exact h3)
        rw [hx]
        simp only [Rows.uptoBulk]
        omega
      refine ⟨some a, ofN ns, cap, by rw [hcs, len_ofN, hns], by rw [len_ofN, hns]; exact hl, hm, fun hne => ?_, hwt⟩
      have hpos : 0 < ns.length := by
        rcases Nat.eq_zero_or_pos ns.length with h0 | h0
        · rw [List.eq_nil_of_length_eq_zero h0] at hne
          exact absurd rfl hne
        · exact h0
      obtain ⟨p0, hc0, -⟩ := hq 0 _ (List.getElem?_eq_getElem hpos)
      obtain ⟨blk, off, spot⟩ := a
      have h00 := hc0 0 (by omega)
      have hs : spot = none := by
        have := (cell_block_lt (h00.trans rfl)).2
        simpa [Addr.add] using this
      subst hs
      refine ⟨blk, off, rfl, RdF.mk fun i nd hi => ?_⟩
      rw [nds_ofN] at hi
      obtain ⟨p, hc, hok, -⟩ := hq i nd hi
      refine ⟨p, ?_, fun k hk => ?_, hok⟩
      · have := (cell_block_lt ((hc 0 (by omega)).trans rfl)).1
        rw [add_at, add_at] at this
        exact this
      · rw [← hc k hk, add_at, add_at]
end
end Go.Proofs.YtbhniddgkdldlaaGreatDoor
