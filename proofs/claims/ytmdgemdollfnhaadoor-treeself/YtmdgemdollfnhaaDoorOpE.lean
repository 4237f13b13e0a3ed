/- Contracts of op.whole: of every byte that has a name. -/
import Derived.Test.YtmdgemdollfnhaaDoorOpD
namespace Go.Proofs.YtmdgemdollfnhaaDoor
open Go.RowKit

section
variable {n B : Nat} {w00 w0 w w' : World} {e : TypeId} {v : Value} {xs : List Value}
/-- a row of the call's own, past the call's own result cell in block n. -/
structure Kep (n : Nat) (w00 w : World) (e : TypeId) (v : Value) (xs : List Value) : Prop where
  row : w.ownsRow (n + 1) e 1 v xs.length xs
  below : Below n w00 w
  le : n + 1 ≤ w.heap.size
theorem row_other {m : Nat} (h : w.ownsRow (n + 1) e 1 v m xs) (hk : ∀ g, n + 1 ≤ g → g < w.heap.size → w'.heap[g]? = w.heap[g]?) : w'.ownsRow (n + 1) e 1 v m xs := by
  refine ⟨h.1, ?_⟩
  rcases h.2 with hx | ⟨g, cap, cur, h1, h2, h3, h4⟩
  · exact .inl hx
  · refine .inr ⟨g, cap, cur, h1, h2, ?_, h4⟩
    have hlt : g < w.heap.size := by
      rcases Nat.lt_or_ge g w.heap.size with h5 | h5
      · exact h5
      · rw [Array.getElem?_eq_none h5] at h3; cases h3
    rw [hk g h2 hlt]; exact h3
theorem Kep.setCell (h : Kep n w00 w e v xs) (i : Nat) (u : Value) : Kep n w00 (w.setCell ⟨n, i, none⟩ u) e v xs :=
  ⟨row_other h.row fun g h1 _ => Below.heap_setCell _ _ _ _ (by simp; omega), h.below.setCell (Nat.le_refl _) u, by have := h.le; simpa [World.setCell] using this⟩
theorem Kep.alloc (h : Kep n w00 w e v xs) (o : Obj) : Kep n w00 (w.alloc o) e v xs :=
  ⟨row_other h.row fun g _ h2 => Below.heap_alloc _ _ _ h2, h.below.alloc (by have := h.le; omega) o, by have := h.le; simp; omega⟩
theorem Kep.drewN (h : Kep n w00 w e v xs) (k : Nat) : Kep n w00 (w.drewN k) e v xs := ⟨h.row, ⟨h.below.os, h.below.tape, h.below.output, h.below.size, h.below.block⟩, h.le⟩
theorem Kep.two (h : Kep n w00 w e v xs) (o : Obj) (q i j : Nat) (a b : Value) : Kep n w00 ((((w.alloc o).drewN q).setCell ⟨w.heap.size, i, none⟩ a).setCell ⟨w.heap.size, j, none⟩ b) e v xs := by
  have hl := h.le
  refine ⟨row_other h.row fun g _ h2 => ?_, (((h.alloc o).drewN q).below.setCell (by simp; omega) a).setCell (by simp; omega) b, by simp [World.setCell]; omega⟩
  rw [Below.heap_setCell _ _ _ _ (by simp; omega), Below.heap_setCell _ _ _ _ (by simp; omega)]
  exact Below.heap_alloc _ _ _ h2
theorem Kep.own (h : Kep n w00 w e v xs) : Own n w00 w e v xs := by
  refine ⟨⟨h.row.1, ?_⟩, h.below, by have := h.le; omega⟩
  rcases h.row.2 with hx | ⟨g, cap, cur, h1, h2, h3⟩
  · exact .inl hx
  · exact .inr ⟨g, cap, cur, h1, by omega, h3⟩
theorem seven {a0 a1 a2 a3 a4 a5 a6 : Value} {t : TypeId} (h : Below (w0.alloc (.cells #[a0, a1, a2, a3, a4, a5, a6] t)).heap.size (w0.alloc (.cells #[a0, a1, a2, a3, a4, a5, a6] t)) w) :
    (w0.heap.size < w.heap.size) ∧ (w.cell? ⟨w0.heap.size, 0, none⟩ = some a0) ∧ (w.cell? ⟨w0.heap.size, 1, none⟩ = some a1) ∧ (w.cell? ⟨w0.heap.size, 2, none⟩ = some a2) ∧ (w.cell? ⟨w0.heap.size, 3, none⟩ = some a3) ∧
    (w.cell? ⟨w0.heap.size, 4, none⟩ = some a4) ∧ (w.cell? ⟨w0.heap.size, 5, none⟩ = some a5) ∧ (w.cell? ⟨w0.heap.size, 6, none⟩ = some a6) ∧ (∀ i, w.frozen? ⟨w0.heap.size, i, none⟩ = false) := by
  have hc : ∀ i, w.cell? ⟨w0.heap.size, i, none⟩ = (#[a0, a1, a2, a3, a4, a5, a6] : Array Value)[i]? := fun i => (h.cell (p := ⟨w0.heap.size, i, none⟩) (by simp)).trans (World.cell?_alloc_at _ _ _ _ rfl)
  exact ⟨by have := h.size; simp at this; omega, hc 0, hc 1, hc 2, hc 3, hc 4, hc 5, hc 6, fun i => (h.frozen (p := ⟨w0.heap.size, i, none⟩) (by simp)).trans (World.frozen?_alloc_at _ _ _ _ rfl)⟩
theorem Own.kep {o : Obj} (h : Own (w0.alloc o).heap.size (w0.alloc o) w e v xs) : Kep w0.heap.size w0 w e v xs :=
  ⟨by simpa using h.row, ((Below.refl _ _).alloc (Nat.le_refl _) o).trans (h.below.mono (by simp)), by have := h.le; simpa using this⟩
theorem Nam.below (h : Nam w) (hb : Below w.heap.size w w') : Nam w' := by
  obtain ⟨m, hm⟩ := h.some_
  exact ⟨fun j hj => (hb.cell (p := ⟨_, j, none⟩) (World.block_lt_of_cell? _ _ (h.names j hj))).trans (h.names j hj),
    fun j hj => (hb.cell (p := ⟨_, j, none⟩) (World.block_lt_of_cell? _ _ (h.numbers j hj))).trans (h.numbers j hj),
    m, (hb.cell (p := ⟨_, 0, none⟩) (World.block_lt_of_cell? _ _ hm)).trans hm⟩
theorem Nam.alloc (h : Nam w) (o : Obj) : Nam (w.alloc o) := h.below ((Below.refl _ _).alloc (Nat.le_refl _) o)
end

/-- the value of an operation. -/
def opV (b : Int) (v : Value) : Value := .agg #[.int .i64 b, .string (Opx.nmB b), .int .i64 (Opx.kd b), v, .int .i64 (Opx.gv b), .int .i64 (Opx.by_ b), .bool (Opx.sn b)]
/-- the value of no operation. -/
def noV : Value := .agg #[.int .i64 0, .string ⟨#[]⟩, .int .i64 0, .slice none 0 0, .int .i64 0, .int .i64 0, .bool false]

set_option maxHeartbeats 4000000 in
set_option maxRecDepth 100000 in
theorem whole_any (b : Int) (w : World) (h : IsOp b) (hN : Nam w) :
    Calls Tryd.prog 84 #[.int .i64 b] w fun e w' => ∃ v, e = .returned (opV b v) ∧ Own w.heap.size w w' 3 v (i64s (Opx.tk b)) := by
  have h0 : 0 ≤ b ∧ b < 174 := by obtain ⟨j, rfl, hj, _⟩ := h; omega
  have HN := Lib.hid (fun o => nameOf_any b (w.alloc o) (hN.alloc o) (by omega) (by omega))
  have HK := Lib.hid (fun w => kindOf_any b w)
  have HT := Lib.hid (fun o => takes_any b (w.alloc o) h)
  have HG := Lib.hid (fun w => gives_any b w)
  by_cases c : Opx.kd b = 7 ∨ Opx.kd b = 8
  · have e1 : Opx.by_ b = Opx.acc (Opx.nm b) := by simp [Opx.by_, c]
    have e2 : Opx.sn b = Lib.hasSuffix (Opx.nm b) [95, 115] := by simp [Opx.sn, c]
    unfold opV
    rw [e1, e2]
    have hsz := nmB_size b
    have HS := Lib.hid (fun w => Tryd.strings_HasSuffix (Opx.nmB b) ⟨#[95, 115]⟩ w (by omega))
    simp only [nmB_list] at HS
    have HA : Hid (∀ w2 o, Below w.heap.size w w2 → w.heap.size ≤ w2.heap.size → Calls Tryd.prog 95 #[.string (Opx.nmB b)] (w2.alloc o) fun e w' => e = .returned (.int .i64 (Opx.acc (Opx.nm b))) ∧ ∃ n, w' = (w2.alloc o).drewN n) :=
      Lib.hid (fun w2 o hb hl => access_any b (w2.alloc o) (hN.below (hb.alloc hl o)))
    obtain ⟨k, hk⟩ : ∃ k, k = Opx.kd b := ⟨_, rfl⟩
    rw [← hk] at c HK HT HG ⊢
    clear e1 e2 h0 h hN hsz hk
    rcases c with rfl | rfl
    all_goals
      go_enter Tryd.func84, Tryd.ntmps84
      go_wp2_with (first
        | (go_at_call 83; refine (HN.out _).mono ?_; rintro e w' ⟨rfl, rfl⟩)
        | (go_at_call 92; refine (HK.out _).mono ?_; rintro e w' ⟨rfl, rfl⟩)
        | (go_at_call 93; refine (HT.out _).mono ?_; rintro e w' ⟨v, rfl, ho⟩; obtain ⟨A, c, rfl, -, -, -⟩ := ho.form; obtain ⟨hlt, k0, k1, k2, k3, k4, k5, k6, kf⟩ := seven ho.below; have hk := Lib.hid ho.kep; simp only [i64s_length] at hk ⊢; clear ho)
        | (go_at_call 94; refine (HG.out _).mono ?_; rintro e w' ⟨rfl, rfl⟩)
        | (go_at_call 95; refine (HA.out _ _ hk.out.below (Nat.le_of_lt hlt)).mono ?_; rintro e w' ⟨rfl, q, rfl⟩)
        | (go_at_call 96; refine (HS.out _).mono ?_; rintro e w' ⟨rfl, rfl⟩))
      refine bodyPost_ret (v := .agg #[.int .i64 b, .string (Opx.nmB b), .int .i64 _, .slice A (Opx.tk b).length c, .int .i64 (Opx.gv b), .int .i64 (Opx.acc (Opx.nm b)), .bool (Lib.hasSuffix (Opx.nm b) [95, 115])]) (by simp [results, Tryd.results84, go_sem, k0, k1, k2, k3, k4, k5, k6, hlt]; rfl) rfl ?_
      exact ⟨_, rfl, ((((((((hk.out.two _ q _ _ _ _).setCell 0 _).setCell 1 _).setCell 2 _).setCell 3 _).setCell 4 _).setCell 5 _).setCell 6 _).own⟩
  · have e1 : Opx.by_ b = 0 := by simp [Opx.by_, c]
    have e2 : Opx.sn b = false := by simp [Opx.sn, c]
    unfold opV
    rw [e1, e2]
    have t1 : (Opx.kd b == 7) = false := by simp; omega
    have t2 : (Opx.kd b == 8) = false := by simp; omega
    clear e1 e2 c h0 h hN
    go_enter Tryd.func84, Tryd.ntmps84
    go_wp2_with (first
      | (go_at_call 83; refine (HN.out _).mono ?_; rintro e w' ⟨rfl, rfl⟩)
      | (go_at_call 92; refine (HK.out _).mono ?_; rintro e w' ⟨rfl, rfl⟩)
      | (go_at_call 93; refine (HT.out _).mono ?_; rintro e w' ⟨v, rfl, ho⟩; obtain ⟨A, c, rfl, -, -, -⟩ := ho.form; obtain ⟨hlt, k0, k1, k2, k3, k4, k5, k6, kf⟩ := seven ho.below; have hk := Lib.hid ho.kep; simp only [i64s_length] at hk ⊢; clear ho)
      | (go_at_call 94; refine (HG.out _).mono ?_; rintro e w' ⟨rfl, rfl⟩))
    refine bodyPost_ret (v := .agg #[.int .i64 b, .string (Opx.nmB b), .int .i64 (Opx.kd b), .slice A (Opx.tk b).length c, .int .i64 (Opx.gv b), .int .i64 0, .bool false]) (by simp [results, Tryd.results84, go_sem, k0, k1, k2, k3, k4, k5, k6, hlt]) rfl ?_
    exact ⟨_, rfl, ((((((((hk.out.setCell 0 _).setCell 1 _).setCell 2 _).setCell 3 _).setCell 4 _).setCell 5 _).setCell 6 _).alloc _).own⟩

theorem nmB_empty (b : Int) : (Opx.nmB b).toList.isEmpty = (Opx.nm b).isEmpty := by
  rw [Lib.toList_data, nmB_list]

set_option maxHeartbeats 4000000 in
set_option maxRecDepth 100000 in
theorem Look_flt (b : Int) (w : World) (h : Opx.flt b = true) :
    Calls Tryd.prog 68 #[.int .i64 b] w fun e w' => e = .returned (.tuple #[noV, .iface 48 (.int .i64 3)]) ∧ Below w.heap.size w w' := by
  have HF := Lib.hid (fun w => isFloat_any b w)
  rw [h] at HF
  unfold noV
  go_enter Tryd.func68, Tryd.ntmps68
  go_wp2_with (go_at_call 82; refine (HF.out _).mono ?_; rintro e w' ⟨rfl, rfl⟩)
  refine bodyPost_ret (v := .tuple #[noV, .iface 48 (.int .i64 3)]) (by simp [results, Tryd.results68, go_sem, noV]) rfl ?_
  exact ⟨rfl, (Below.refl _ _).alloc (Nat.le_refl _) _⟩

set_option maxHeartbeats 4000000 in
set_option maxRecDepth 100000 in
theorem Look_none (b : Int) (w : World) (hN : Nam w) (h0 : -9223372036854775808 ≤ b) (h1 : b ≤ 9223372036854775807) (h : Opx.flt b = false) (hn : Opx.nm b = []) :
    Calls Tryd.prog 68 #[.int .i64 b] w fun e w' => e = .returned (.tuple #[noV, .iface 48 (.int .i64 5)]) ∧ Below w.heap.size w w' := by
  have HF := Lib.hid (fun w => isFloat_any b w)
  rw [h] at HF
  have HN := Lib.hid (fun o => nameOf_any b (w.alloc o) (hN.alloc o) h0 h1)
  have e : Opx.nmB b = ⟨#[]⟩ := by simp [Opx.nmB, hn]
  rw [e] at HN
  unfold noV
  clear e hn h hN
  go_enter Tryd.func68, Tryd.ntmps68
  go_wp2_with (first
    | (go_at_call 82; refine (HF.out _).mono ?_; rintro e w' ⟨rfl, rfl⟩)
    | (go_at_call 83; refine (HN.out _).mono ?_; rintro e w' ⟨rfl, rfl⟩))
  refine bodyPost_ret (v := .tuple #[noV, .iface 48 (.int .i64 5)]) (by simp [results, Tryd.results68, go_sem, noV]) rfl ?_
  exact ⟨rfl, (Below.refl _ _).alloc (Nat.le_refl _) _⟩

theorem isOp_of (b : Int) (hn : Opx.nm b ≠ []) : IsOp b := by
  have h0 : 0 ≤ b := by
    rcases Int.lt_or_le b 0 with h | h
    · exact absurd (by simp [Opx.nm]; omega) hn
    · exact h
  obtain ⟨j, rfl⟩ := Int.eq_ofNat_of_zero_le h0
  refine ⟨j, rfl, ?_, hn⟩
  rcases Nat.lt_or_ge j 174 with h | h
  · exact h
  · refine absurd ?_ hn
    simp only [Opx.nm, Int.toNat_natCast]
    rw [if_pos h0, List.getD_eq_getElem?_getD, List.getElem?_eq_none (by rw [show Opx.tab.length = 174 by rfl]; exact h)]
    rfl

set_option maxHeartbeats 4000000 in
set_option maxRecDepth 100000 in
theorem Look_op (b : Int) (w : World) (hN : Nam w) (hn : Opx.nm b ≠ []) (h : Opx.flt b = false) :
    Calls Tryd.prog 68 #[.int .i64 b] w fun e w' => ∃ A c, e = .returned (.tuple #[opV b (.slice A (Opx.tk b).length c), .nilIface]) ∧ Own w.heap.size w w' 3 (.slice A (Opx.tk b).length c) (i64s (Opx.tk b)) := by
  have hop := isOp_of b hn
  have h0 : 0 ≤ b ∧ b < 174 := by obtain ⟨j, rfl, hj, _⟩ := hop; omega
  have HF := Lib.hid (fun w => isFloat_any b w)
  rw [h] at HF
  have HN := Lib.hid (fun o => nameOf_any b (w.alloc o) (hN.alloc o) (by omega) (by omega))
  have HW := Lib.hid (fun o => whole_any b (w.alloc o) hop (hN.alloc o))
  have t : (Opx.nmB b).toList.isEmpty = false := by rw [nmB_empty]; cases hq : Opx.nm b <;> simp_all
  unfold opV at HW ⊢
  clear hop h hn hN h0
  go_enter Tryd.func68, Tryd.ntmps68
  go_wp2_with (first
    | (go_at_call 82; refine (HF.out _).mono ?_; rintro e w' ⟨rfl, rfl⟩)
    | (go_at_call 83; refine (HN.out _).mono ?_; rintro e w' ⟨rfl, rfl⟩)
    | (go_at_call 84; refine (HW.out _).mono ?_; rintro e w' ⟨v, rfl, ho⟩; obtain ⟨A, c, rfl, -, -, -⟩ := ho.form; obtain ⟨hlt, k0, k1, k2, k3, k4, k5, k6, kf⟩ := seven ho.below; have hk := Lib.hid ho.kep; simp only [i64s_length] at hk ⊢; clear ho))
  refine bodyPost_ret (v := .tuple #[.agg #[.int .i64 b, .string (Opx.nmB b), .int .i64 (Opx.kd b), .slice A (Opx.tk b).length c, .int .i64 (Opx.gv b), .int .i64 (Opx.by_ b), .bool (Opx.sn b)], .nilIface]) (by simp [results, Tryd.results68, go_sem, k0, k1, k2, k3, k4, k5, k6, hlt]) rfl ?_
  exact ⟨_, _, rfl, (((((((hk.out.setCell 0 _).setCell 1 _).setCell 2 _).setCell 3 _).setCell 4 _).setCell 5 _).setCell 6 _).own⟩

end Go.Proofs.YtmdgemdollfnhaaDoor
