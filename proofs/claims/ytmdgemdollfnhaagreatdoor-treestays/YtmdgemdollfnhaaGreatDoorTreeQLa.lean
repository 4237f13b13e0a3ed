/- A loop of the reference's CopyModule: the globals. -/
import Derived.Test.YtmdgemdollfnhaaGreatDoorTreeQ
import Derived.Test.YtmdgemdollfnhaaGreatDoorTreeS4
namespace Go.Proofs.YtmdgemdollfnhaaGreatDoor
open Go.RowKit Trx

theorem elem_gl : ElemK Tryz.prog 56 11 136 := ElemK.mk_ (z := .agg #[.int .i64 0, .bool false, .int .i64 0, .int .i64 0, .int .i64 0, .int .u64 0, .int .i64 0, .slice none 0 0, .slice none 0 0, .slice none 0 0, .bool false]) (by kernel_rfl) rfl
theorem Gl.one (t : Gl) : ∀ u ∈ t.cells, u.oneCell' = true := by
  intro u hu
  simp [Gl.cells, In.cells, insC] at hu
  rcases hu with rfl | rfl | rfl | rfl | rfl | rfl | rfl | rfl | rfl | rfl | rfl <;> rfl
/-- a new block of cells, behind a call that changes nothing older. -/
theorem newBlk {w0 w : World} {cs : Array Value} {t : TypeId} (h : Below (w0.alloc (.cells cs t)).heap.size (w0.alloc (.cells cs t)) w) :
    w0.heap.size < w.heap.size ∧ (∀ i, w.cell? ⟨w0.heap.size, i, none⟩ = cs[i]?) ∧ (∀ i, w.frozen? ⟨w0.heap.size, i, none⟩ = false) ∧ Below w0.heap.size w0 w :=
  ⟨by have := h.size; simp at this; omega, fun i => (h.cell (p := ⟨w0.heap.size, i, none⟩) (by simp)).trans (World.cell?_alloc_at _ _ _ _ rfl), fun i => (h.frozen (p := ⟨w0.heap.size, i, none⟩) (by simp)).trans (World.frozen?_alloc_at _ _ _ _ rfl), bel_alloc h⟩

theorem setCells_size (b : Nat) : ∀ (vs : List Value) (o : Nat) (w : World), (w.setCells b o vs).heap.size = w.heap.size
  | [], _, _ => rfl
  | v :: r, o, w => by rw [World.setCells, setCells_size b r]; simp [World.setCell]
theorem setCells_below {B b : Nat} {w0 : World} (hb : B ≤ b) : ∀ (vs : List Value) (o : Nat) (w : World), Below B w0 w → Below B w0 (w.setCells b o vs)
  | [], _, _, h => h
  | v :: r, o, w, h => by rw [World.setCells]; exact setCells_below hb r _ _ (h.setCell (p := ⟨b, o, none⟩) hb v)
theorem setCells_other {b k : Nat} (h : k ≠ b) : ∀ (vs : List Value) (o : Nat) (w : World), (w.setCells b o vs).heap[k]? = w.heap[k]?
  | [], _, _ => rfl
  | v :: r, o, w => by rw [World.setCells, setCells_other h r]; exact Below.heap_setCell _ _ _ _ (by simpa using h)
theorem gen_list {P : Program} {ops : Array Oper} {rest : List Oper} {Q : Exit → Act → World → Prop} {w : World} {v1 v2 v3 v6 v7 v8 : Value} (a : Act) (hs : a.tmps.size = 208) (hd : a.defers = []) (h1 : a.eval (.tmp 1) = v1) (h2 : a.eval (.tmp 2) = v2) (h3 : a.eval (.tmp 3) = v3) (h6 : a.eval (.tmp 6) = v6) (h7 : a.eval (.tmp 7) = v7) (h8 : a.eval (.tmp 108) = v8)
    (H : ∀ a : Act, a.tmps.size = 208 → a.defers = [] → a.eval (.tmp 1) = v1 → a.eval (.tmp 2) = v2 → a.eval (.tmp 3) = v3 → a.eval (.tmp 6) = v6 → a.eval (.tmp 7) = v7 → a.eval (.tmp 108) = v8 → wpList P ops Q rest a w) : wpList P ops Q rest a w := H a hs hd h1 h2 h3 h6 h7 h8

set_option maxHeartbeats 8000000 in
set_option maxRecDepth 100000 in
theorem loop_gl (m : Mo) (w0 : World) (b0 g0 : Nat) (hC : CmC m w0 b0) (vals : List Value) (hv : vals.set 5 (.slice none 0 0) = vals) (Ds : List (World → Nat → Prop)) (Q0 : Exit → Act → World → Prop)
    (hexit : ∀ (a : Act) (wr : World) (s : SL Gl), Fm b0 g0 a → s.l.map kGl = m.gl.l.map kGl →
      (∀ {β : Type} (q' : World → Nat → β → Prop), Cm w0.heap.size g0 w0 wr (.slice none 0 0) (vals.set 5 s.v) q' [] ((fun w B => s.ok Gl.cells Gl.ok 11 136 w B) :: Ds)) → Q0 (.exit 4) a wr)
    (a : Act) (w : World) (hf : Fm b0 g0 a) (h4 : a.eval (.tmp 6) = .int .i64 0) (hcm : Cm w0.heap.size g0 w0 w (.slice none 0 0) vals Gl.ok [] Ds) :
    (Code.loop (cmBody 2)).wp Tryz.prog Q0 a w := by
  have hle : m.gl.l.length * 136 ≤ 140737488351232 := by have := hC.ok.gl.rb; unfold RB at this; exact this
  refine wp_loop (fun a wr => Fm b0 g0 a ∧ ∃ (j : Nat) (l : List Gl) (v : Value), a.eval (.tmp 6) = .int .i64 j ∧ j ≤ m.gl.l.length ∧ l.map kGl = (m.gl.l.map kGl).take j ∧
    OwnK w0.heap.size w0 wr 56 11 v (l.map Gl.cells) ∧ Cm w0.heap.size g0 w0 wr v (vals.set 5 v) Gl.ok l Ds) (fun a _ => m.gl.l.length - (intOf (a.eval (.tmp 6))).toNat)
    ⟨hf, 0, [], .slice none 0 0, h4, by omega, by simp, OwnK.nil_ _ _ _ _ hcm.below (Nat.le_trans hcm.hlo (Nat.le_of_lt hcm.lt)), by rw [hv]; exact hcm⟩ ?_
  clear hf h4 hcm a w
  rintro a wr ⟨hf, j, l, v, h4, hj, hk, ho, hcm⟩
  rw [fr_of a hf.size hf.defers]
  have h1 : (fun i => a.eval (.tmp i)) 1 = .pointer (some ⟨b0, 0, none⟩) := hf.e1
  have h2 : (fun i => a.eval (.tmp i)) 2 = .pointer (some ⟨b0 + 1, 0, none⟩) := hf.e2
  have h3 : (fun i => a.eval (.tmp i)) 3 = .pointer (some ⟨g0, 0, none⟩) := hf.e3
  replace h4 : (fun i => a.eval (.tmp i)) 6 = .int .i64 j := h4
  generalize (fun i => a.eval (.tmp i)) = f at h1 h2 h3 h4 ⊢
  clear hf a
  have hll : l.length = j := by have := congrArg List.length hk; simp at this; omega
  have hbel := hcm.below
  have hb0 : b0 < wr.heap.size := Nat.lt_of_lt_of_le hC.lt hbel.size
  have hc0 : wr.cell? ⟨b0, 5, none⟩ = some (.slice m.gl.A m.gl.l.length m.gl.c) := (hbel.cell (p := ⟨b0, 5, none⟩) hC.lt).trans (hC.box 5 (by omega))
  by_cases hlt : j < m.gl.l.length
  · obtain ⟨b, o, t, hA, hx, hb, hok, hcell⟩ := hC.ok.gl.at_ hlt
    have q0 : wr.cell? ⟨b, o + j * 11, none⟩ = some (.int .i64 t.ty) := (hbel.cell (p := ⟨b, _, none⟩) hb).trans (hcell 0 (by omega))
    have q1 : wr.cell? ⟨b, o + j * 11 + 1, none⟩ = some (.bool t.mu) := (hbel.cell (p := ⟨b, _, none⟩) hb).trans (hcell 1 (by omega))
    have q2 : wr.cell? ⟨b, o + j * 11 + 2, none⟩ = some (.int .i64 t.i.n.op) := (hbel.cell (p := ⟨b, _, none⟩) hb).trans (hcell 2 (by omega))
    have q3 : wr.cell? ⟨b, o + j * 11 + 3, none⟩ = some (.int .i64 t.i.n.a) := (hbel.cell (p := ⟨b, _, none⟩) hb).trans (hcell 3 (by omega))
    have q4 : wr.cell? ⟨b, o + j * 11 + 4, none⟩ = some (.int .i64 t.i.n.b) := (hbel.cell (p := ⟨b, _, none⟩) hb).trans (hcell 4 (by omega))
    have q5 : wr.cell? ⟨b, o + j * 11 + 5, none⟩ = some (.int .u64 t.i.n.v) := (hbel.cell (p := ⟨b, _, none⟩) hb).trans (hcell 5 (by omega))
    have q6 : wr.cell? ⟨b, o + j * 11 + 6, none⟩ = some (.int .i64 t.i.n.t) := (hbel.cell (p := ⟨b, _, none⟩) hb).trans (hcell 6 (by omega))
    have q7 : wr.cell? ⟨b, o + j * 11 + 7, none⟩ = some (.slice t.i.p.AL t.i.n.L.length t.i.p.cL) := (hbel.cell (p := ⟨b, _, none⟩) hb).trans (hcell 7 (by omega))
    have q8 : wr.cell? ⟨b, o + j * 11 + 8, none⟩ = some (.slice t.i.p.Ab (len t.i.n.body) t.i.p.cb) := (hbel.cell (p := ⟨b, _, none⟩) hb).trans (hcell 8 (by omega))
    have q9 : wr.cell? ⟨b, o + j * 11 + 9, none⟩ = some (.slice t.i.p.Ae (len t.i.n.els) t.i.p.ce) := (hbel.cell (p := ⟨b, _, none⟩) hb).trans (hcell 9 (by omega))
    have q10 : wr.cell? ⟨b, o + j * 11 + 10, none⟩ = some (.bool t.i.n.he) := (hbel.cell (p := ⟨b, _, none⟩) hb).trans (hcell 10 (by omega))
    have hb' := Nat.lt_of_lt_of_le hb hbel.size
    have g1 : wr.cell? ⟨g0, 5, none⟩ = some v := (hcm.cells 5 (by omega)).trans (by have := hcm.n; simp at this; simp [this])
    have hok' := hok.keep hbel.size (Below.kp hbel)
    have HSi := Lib.hid (fun w' (h : Below wr.heap.size wr w') => single_any t.i w' ((hok'.keep h.size (Below.kp h)).i))
    have HLi := Lib.hid hok'.i.light
    unfold inA at HSi
    have HOk := Lib.hid hok'
    have HX := Lib.hid hx
    have HK := Lib.hid hk
    have HO := Lib.hid ho
    have HCm := Lib.hid hcm
    have glt := hcm.lt
    have hil' : l.length ≤ j := by omega
    have HIL := Lib.hid hll
    clear hexit hcell hok hok' hx hk ho hcm hC hbel hll
    rw [hA] at hc0
    conv => arg 2; whnf
    unfold fr
    simp only [h1, h2, h3, h4]
    go_wp2_with (go_at_call 14; ((with_reducible refine (HSi.out _ ((Below.refl _ _).alloc (Nat.le_refl _) _)).mono ?_); rintro e w1 ⟨A1, rfl, hr1, hb1⟩; obtain ⟨hl1, n1, f1, hw1⟩ := newBlk hb1; have HR1 := Lib.hid hr1; have HW1 := Lib.hid hw1; have HN1 := Lib.hid n1; have HF1 := Lib.hid f1; clear hb1 hr1 hw1 n1 f1))
    rename_i Q' K3 hK3 K2 hK2 K1 hK1
    refine (Copy_one t.i A1 1 w1 HR1.out HLi.out).mono ?_
    rintro e w2 ⟨c2, g, p, rfl, y1, y2, y3, y4, y5⟩
    refine hK1 _ _ (gen_list (v1 := .pointer (some ⟨b0, 0, none⟩)) (v2 := .pointer (some ⟨b0 + 1, 0, none⟩)) (v3 := .pointer (some ⟨g0, 0, none⟩)) (v6 := .int .i64 j) (v7 := .pointer (some ⟨wr.heap.size, 0, none⟩)) (v8 := .slice (some ⟨g, 0, none⟩) 1 c2) _ rfl rfl rfl rfl rfl rfl rfl rfl ?_)
    intro a hsz hd e1 e2 e3 e6 e7 e8
    have HS := Lib.hid hsz
    clear hsz hK1 K1
    have hw2 : Below wr.heap.size wr w2 := HW1.out.trans (y5.mono HW1.out.size)
    have hl2 : wr.heap.size < w2.heap.size := Nat.lt_of_lt_of_le hl1 y5.size
    have hcx : ∀ i, w2.cell? ⟨wr.heap.size, i, none⟩ = _ := fun i => (y5.cell (p := ⟨wr.heap.size, i, none⟩) hl1).trans (HN1.out i)
    have hfx : ∀ i, w2.frozen? ⟨wr.heap.size, i, none⟩ = false := fun i => (y5.frozen (p := ⟨wr.heap.size, i, none⟩) hl1).trans (HF1.out i)
    have HCX := Lib.hid hcx
    have HFX := Lib.hid hfx
    have HY3 := Lib.hid y3
    clear hcx hfx y3
    -- the copy's first instruction, and its store
    have z8 := ev e8
    refine wpList_plain rfl fun K hK => op_val (.pointer (some ⟨g, 0, none⟩)) (by go_simp) (hK _ _ ?_)
    clear hK K
    refine wpList_load_mid rfl 48 (.tmp 109) rfl g 0 (by show (a.put (some 109) _).eval _ = _; simp [eval_put, size_put, HS.out]) (insC t.i.n p).toList _ (fun k v hv => by
      have hk9 : k < 9 := by rcases Nat.lt_or_ge k 9 with h | h; exact h; rw [List.getElem?_eq_none (by simpa [insC] using h)] at hv; cases hv
      rw [Nat.zero_add, HY3.out k hk9]; simpa using hv) Tryz.underlying48 rfl (by kernel_rfl) ?_
    have z7 : ((a.put (some 109) (.pointer (some ⟨g, 0, none⟩))).put (some 110) (.agg (insC t.i.n p))).tmps[7]?.getD undef = .pointer (some ⟨wr.heap.size, 0, none⟩) := ev (by simp only [eval_put]; exact e7)
    refine wpList_plain rfl fun K hK => op_val (.pointer (some ⟨wr.heap.size, 2, none⟩)) (by
      show (execOp ((a.put (some 109) (.pointer (some ⟨g, 0, none⟩))).put (some 110) (.agg (insC t.i.n p))).eval _).run _ _ = _
      generalize ((a.put (some 109) (.pointer (some ⟨g, 0, none⟩))).put (some 110) (.agg (insC t.i.n p))) = a' at *
      go_simp) (hK _ _ ?_)
    clear hK K z7
    have e1a := e1
    have e2a := e2
    have e3a := e3
    have e6a := e6
    have e7a := e7
    have da := Lib.hid hd
    clear hd
    change wpList _ _ _ _ (((a.put (some 109) (.pointer (some ⟨g, 0, none⟩))).put (some 110) (.agg (insC t.i.n p))).put (some 111) (.pointer (some ⟨wr.heap.size, 2, none⟩))) w2
    generalize ha : ((a.put _ _).put _ _).put _ _ = a3
    have HSa3 : Hid (a3.tmps.size = 208) := Lib.hid (by rw [← ha]; simp only [size_put, HS.out])
    have da3 : Hid (a3.defers = []) := Lib.hid (by rw [← ha]; simp only [defers_put]; exact da.out)
    have e110a3 : a3.eval (.tmp 110) = (.agg (insC t.i.n p)) := by rw [← ha]; simp [eval_put, size_put, HS.out]
    have e111a3 : a3.eval (.tmp 111) = (.pointer (some ⟨wr.heap.size, 2, none⟩)) := by rw [← ha]; simp [eval_put, size_put, HS.out]
    have e1a3 : a3.eval (.tmp 1) = (.pointer (some ⟨b0, 0, none⟩)) := by rw [← ha]; simp only [eval_put]; exact e1a
    have e2a3 : a3.eval (.tmp 2) = (.pointer (some ⟨b0 + 1, 0, none⟩)) := by rw [← ha]; simp only [eval_put]; exact e2a
    have e3a3 : a3.eval (.tmp 3) = (.pointer (some ⟨g0, 0, none⟩)) := by rw [← ha]; simp only [eval_put]; exact e3a
    have e6a3 : a3.eval (.tmp 6) = (.int .i64 j) := by rw [← ha]; simp only [eval_put]; exact e6a
    have e7a3 : a3.eval (.tmp 7) = (.pointer (some ⟨wr.heap.size, 0, none⟩)) := by rw [← ha]; simp only [eval_put]; exact e7a
    clear ha
    have hth : w2.there wr.heap.size 2 (insC t.i.n p).size := fun k hk => ⟨by rw [HCX.out]; simp [insC] at hk ⊢; omega, HFX.out _⟩
    refine wpList_store_mid rfl 48 (.tmp 111) (.tmp 110) rfl wr.heap.size 2 (insC t.i.n p) e111a3 e110a3 hth (by kernel_rfl) (by simp [insC, Value.oneCell']) ?_
    have hW2 : Below wr.heap.size wr (w2.setCells wr.heap.size 2 (insC t.i.n p).toList) := setCells_below (Nat.le_refl _) _ _ _ hw2
    have hS2 := Lib.hid (setCells_size wr.heap.size (insC t.i.n p).toList 2 w2)
    have hH2 : ∀ k, k < w2.heap.size → k ≠ wr.heap.size → (w2.setCells wr.heap.size 2 (insC t.i.n p).toList).heap[k]? = w2.heap[k]? := fun k _ hne => setCells_other hne _ _ _
    have hR2 : (w2.setCells wr.heap.size 2 (insC t.i.n p).toList).rangeAt wr.heap.size 0 (Gl.cells ⟨t.ty, t.mu, ⟨t.i.n, p⟩⟩) := fun k v hv => by
      rw [Nat.zero_add]
      match k with
      | 0 => rw [World.cell?_setCells_out _ _ _ _ _ (fun _ _ => .inl (by show 0 < 2; omega)), HCX.out]; exact hv
      | 1 => rw [World.cell?_setCells_out _ _ _ _ _ (fun _ _ => .inl (by show 1 < 2; omega)), HCX.out]; exact hv
      | k + 2 =>
        have := World.rangeAt_setCells_same w2 wr.heap.size 2 (insC t.i.n p).toList (by simpa using hth) k v hv
        rwa [Nat.add_comm 2 k] at this
    have hF2 : ∀ z, (w2.setCells wr.heap.size 2 (insC t.i.n p).toList).frozen? z = w2.frozen? z := fun z => World.frozen?_setCells _ _ _ _ z
    generalize w2.setCells wr.heap.size 2 (insC t.i.n p).toList = W2 at *
    change K2 a3 W2
    refine hK2 _ _ (wp_region_list ?_)
    clear hK2 K2 hth HCX HFX HY3
    have g2 : W2.cell? ⟨g0, 5, none⟩ = some v := (hW2.cell (p := ⟨g0, 5, none⟩) glt).trans g1
    have z3 := ev e3a3
    refine wpList_plain rfl fun K hK => op_val (.pointer (some ⟨g0, 5, none⟩)) (by go_simp) (hK _ _ ?_)
    clear hK K
    change wpList _ _ _ _ (a3.put (some 112) (.pointer (some ⟨g0, 5, none⟩))) W2
    generalize ha : a3.put _ _ = a4
    have HSa4 : Hid (a4.tmps.size = 208) := Lib.hid (by rw [← ha]; simp only [size_put, HSa3.out])
    have da4 : Hid (a4.defers = []) := Lib.hid (by rw [← ha]; simp only [defers_put]; exact da3.out)
    have e112a4 : a4.eval (.tmp 112) = (.pointer (some ⟨g0, 5, none⟩)) := by rw [← ha]; simp [eval_put, size_put, HSa3.out]
    have e1a4 : a4.eval (.tmp 1) = (.pointer (some ⟨b0, 0, none⟩)) := by rw [← ha]; simp only [eval_put]; exact e1a3
    have e2a4 : a4.eval (.tmp 2) = (.pointer (some ⟨b0 + 1, 0, none⟩)) := by rw [← ha]; simp only [eval_put]; exact e2a3
    have e3a4 : a4.eval (.tmp 3) = (.pointer (some ⟨g0, 0, none⟩)) := by rw [← ha]; simp only [eval_put]; exact e3a3
    have e6a4 : a4.eval (.tmp 6) = (.int .i64 j) := by rw [← ha]; simp only [eval_put]; exact e6a3
    have e7a4 : a4.eval (.tmp 7) = (.pointer (some ⟨wr.heap.size, 0, none⟩)) := by rw [← ha]; simp only [eval_put]; exact e7a3
    clear ha
    have z4 := ev e112a4
    refine wpList_plain rfl fun K hK => op_val v (by go_simp) (hK _ _ ?_)
    clear hK K
    change wpList _ _ _ _ (a4.put (some 113) v) W2
    generalize ha : a4.put _ _ = a5
    have HSa5 : Hid (a5.tmps.size = 208) := Lib.hid (by rw [← ha]; simp only [size_put, HSa4.out])
    have da5 : Hid (a5.defers = []) := Lib.hid (by rw [← ha]; simp only [defers_put]; exact da4.out)
    have e113a5 : a5.eval (.tmp 113) = v := by rw [← ha]; simp [eval_put, size_put, HSa4.out]
    have e1a5 : a5.eval (.tmp 1) = (.pointer (some ⟨b0, 0, none⟩)) := by rw [← ha]; simp only [eval_put]; exact e1a4
    have e2a5 : a5.eval (.tmp 2) = (.pointer (some ⟨b0 + 1, 0, none⟩)) := by rw [← ha]; simp only [eval_put]; exact e2a4
    have e3a5 : a5.eval (.tmp 3) = (.pointer (some ⟨g0, 0, none⟩)) := by rw [← ha]; simp only [eval_put]; exact e3a4
    have e6a5 : a5.eval (.tmp 6) = (.int .i64 j) := by rw [← ha]; simp only [eval_put]; exact e6a4
    have e7a5 : a5.eval (.tmp 7) = (.pointer (some ⟨wr.heap.size, 0, none⟩)) := by rw [← ha]; simp only [eval_put]; exact e7a4
    clear ha
    refine wpList_load_mid rfl 56 (.tmp 7) rfl wr.heap.size 0 e7a5 (Gl.cells ⟨t.ty, t.mu, ⟨t.i.n, p⟩⟩) _ hR2 Tryz.underlying56 rfl (by kernel_rfl) ?_
    change wpList _ _ _ _ (a5.put (some 114) (.agg #[.int .i64 t.ty, .bool t.mu, .int .i64 t.i.n.op, .int .i64 t.i.n.a, .int .i64 t.i.n.b, .int .u64 t.i.n.v, .int .i64 t.i.n.t, .slice p.AL t.i.n.L.length p.cL, .slice p.Ab (len t.i.n.body) p.cb, .slice p.Ae (len t.i.n.els) p.ce, .bool t.i.n.he])) W2
    generalize ha : a5.put _ _ = a6
    have HSa6 : Hid (a6.tmps.size = 208) := Lib.hid (by rw [← ha]; simp only [size_put, HSa5.out])
    have da6 : Hid (a6.defers = []) := Lib.hid (by rw [← ha]; simp only [defers_put]; exact da5.out)
    have e114a6 : a6.eval (.tmp 114) = (.agg #[.int .i64 t.ty, .bool t.mu, .int .i64 t.i.n.op, .int .i64 t.i.n.a, .int .i64 t.i.n.b, .int .u64 t.i.n.v, .int .i64 t.i.n.t, .slice p.AL t.i.n.L.length p.cL, .slice p.Ab (len t.i.n.body) p.cb, .slice p.Ae (len t.i.n.els) p.ce, .bool t.i.n.he]) := by rw [← ha]; simp [eval_put, size_put, HSa5.out]
    have e1a6 : a6.eval (.tmp 1) = (.pointer (some ⟨b0, 0, none⟩)) := by rw [← ha]; simp only [eval_put]; exact e1a5
    have e2a6 : a6.eval (.tmp 2) = (.pointer (some ⟨b0 + 1, 0, none⟩)) := by rw [← ha]; simp only [eval_put]; exact e2a5
    have e3a6 : a6.eval (.tmp 3) = (.pointer (some ⟨g0, 0, none⟩)) := by rw [← ha]; simp only [eval_put]; exact e3a5
    have e6a6 : a6.eval (.tmp 6) = (.int .i64 j) := by rw [← ha]; simp only [eval_put]; exact e6a5
    have e7a6 : a6.eval (.tmp 7) = (.pointer (some ⟨wr.heap.size, 0, none⟩)) := by rw [← ha]; simp only [eval_put]; exact e7a5
    have e113a6 : a6.eval (.tmp 113) = v := by rw [← ha]; simp only [eval_put]; exact e113a5
    clear ha
    have z6 := ev e114a6
    refine wpList_plain rfl fun K hK => ?_
    have HK2 := Lib.hid hK
    clear hK
    go_simp
    refine HK2.out _ _ ?_
    clear HK2 K
    change wpList _ _ _ _ (a6.put (some 115) (.slice (some ⟨W2.heap.size, 0, none⟩) 1 1)) _
    generalize ha : a6.put _ _ = a7
    have HSa7 : Hid (a7.tmps.size = 208) := Lib.hid (by rw [← ha]; simp only [size_put, HSa6.out])
    have da7 : Hid (a7.defers = []) := Lib.hid (by rw [← ha]; simp only [defers_put]; exact da6.out)
    have e115a7 : a7.eval (.tmp 115) = (.slice (some ⟨W2.heap.size, 0, none⟩) 1 1) := by rw [← ha]; simp [eval_put, size_put, HSa6.out]
    have e1a7 : a7.eval (.tmp 1) = (.pointer (some ⟨b0, 0, none⟩)) := by rw [← ha]; simp only [eval_put]; exact e1a6
    have e2a7 : a7.eval (.tmp 2) = (.pointer (some ⟨b0 + 1, 0, none⟩)) := by rw [← ha]; simp only [eval_put]; exact e2a6
    have e3a7 : a7.eval (.tmp 3) = (.pointer (some ⟨g0, 0, none⟩)) := by rw [← ha]; simp only [eval_put]; exact e3a6
    have e6a7 : a7.eval (.tmp 6) = (.int .i64 j) := by rw [← ha]; simp only [eval_put]; exact e6a6
    have e7a7 : a7.eval (.tmp 7) = (.pointer (some ⟨wr.heap.size, 0, none⟩)) := by rw [← ha]; simp only [eval_put]; exact e7a6
    have e113a7 : a7.eval (.tmp 113) = v := by rw [← ha]; simp only [eval_put]; exact e113a6
    clear ha
    have hal : Below W2.heap.size W2 (W2.alloc (.cells #[.int .i64 t.ty, .bool t.mu, .int .i64 t.i.n.op, .int .i64 t.i.n.a, .int .i64 t.i.n.b, .int .u64 t.i.n.v, .int .i64 t.i.n.t, .slice p.AL t.i.n.L.length p.cL, .slice p.Ab (len t.i.n.body) p.cb, .slice p.Ae (len t.i.n.els) p.ce, .bool t.i.n.he] 56)) := (Below.refl _ _).alloc (Nat.le_refl _) _
    have hbw := hW2.trans (hal.mono hW2.size)
    have hFn : Hang (Win wr.heap.size (W2.alloc (.cells #[.int .i64 t.ty, .bool t.mu, .int .i64 t.i.n.op, .int .i64 t.i.n.a, .int .i64 t.i.n.b, .int .u64 t.i.n.v, .int .i64 t.i.n.t, .slice p.AL t.i.n.L.length p.cL, .slice p.Ab (len t.i.n.body) p.cb, .slice p.Ae (len t.i.n.els) p.ce, .bool t.i.n.he] 56))) (W2.alloc (.cells #[.int .i64 t.ty, .bool t.mu, .int .i64 t.i.n.op, .int .i64 t.i.n.a, .int .i64 t.i.n.b, .int .u64 t.i.n.v, .int .i64 t.i.n.t, .slice p.AL t.i.n.L.length p.cL, .slice p.Ab (len t.i.n.body) p.cb, .slice p.Ae (len t.i.n.els) p.ce, .bool t.i.n.he] 56)) (fun w B => Gl.ok w B ⟨t.ty, t.mu, ⟨t.i.n, p⟩⟩) := by
      have hS2 := hS2.out
      have h1 : Hang (Win w1.heap.size w2) w2 (fun w B => Gl.ok w B ⟨t.ty, t.mu, ⟨t.i.n, p⟩⟩) := y4.imp fun _ _ h => ⟨HOk.out.ty, h, HLi.out⟩
      refine h1.move (agr_of_heap fun k hk => ?_) (fun k hk => ⟨by have := hk.1; omega, by have := hk.2; simp; omega⟩) (by simp; omega)
      have h2 := hk.1
      have h3 := hk.2
      rw [Below.heap_alloc _ _ _ (by omega)]
      exact hH2 k h3 (by omega)
    refine wpList_plain rfl fun K hK => op_push (.tmp 113) (.tmp 115) _ rfl 136 Tryz.underlying26 elem_gl (by decide) (Gl.cells ⟨t.ty, t.mu, ⟨t.i.n, p⟩⟩) 1 W2.heap.size e113a7 (HO.out.later hbw) e115a7 rfl (fun k u hk => by rw [World.cell?_alloc_at _ _ _ _ rfl]; simpa [Gl.cells, In.cells, insC] using hk) (Gl.one _) (by simp only [List.length_map]; omega) (by simp only [List.length_map]; unfold maxLen; omega) (fun v' w3 ho2 hk2 hz2 => hK _ _ ?_)
    clear hK K
    obtain ⟨hcm3, ho3⟩ := HCm.out.push HO.out hbw hFn (by simpa using ho2) hk2 hz2 5 (by omega)
    have gB := (hk2 g0 (Nat.lt_of_lt_of_le glt hbw.size) HCm.out.own).1
    have g4 : w3.cell? ⟨g0, 5, none⟩ = some v := (World.cell?_of_block gB).trans ((hbw.cell (p := ⟨g0, 5, none⟩) glt).trans g1)
    have g5 : w3.frozen? ⟨g0, 5, none⟩ = false := (frozen_of_block gB).trans ((hbw.frozen (p := ⟨g0, 5, none⟩) glt).trans (HCm.out.frz 5))
    change wpList _ _ _ _ (a7.put (some 116) v') w3
    generalize ha : a7.put _ _ = a8
    have HSa8 : Hid (a8.tmps.size = 208) := Lib.hid (by rw [← ha]; simp only [size_put, HSa7.out])
    have da8 : Hid (a8.defers = []) := Lib.hid (by rw [← ha]; simp only [defers_put]; exact da7.out)
    have e116a8 : a8.eval (.tmp 116) = v' := by rw [← ha]; simp [eval_put, size_put, HSa7.out]
    have e1a8 : a8.eval (.tmp 1) = (.pointer (some ⟨b0, 0, none⟩)) := by rw [← ha]; simp only [eval_put]; exact e1a7
    have e2a8 : a8.eval (.tmp 2) = (.pointer (some ⟨b0 + 1, 0, none⟩)) := by rw [← ha]; simp only [eval_put]; exact e2a7
    have e3a8 : a8.eval (.tmp 3) = (.pointer (some ⟨g0, 0, none⟩)) := by rw [← ha]; simp only [eval_put]; exact e3a7
    have e6a8 : a8.eval (.tmp 6) = (.int .i64 j) := by rw [← ha]; simp only [eval_put]; exact e6a7
    have e7a8 : a8.eval (.tmp 7) = (.pointer (some ⟨wr.heap.size, 0, none⟩)) := by rw [← ha]; simp only [eval_put]; exact e7a7
    clear ha
    have z8 := ev e3a8
    refine wpList_plain rfl fun K hK => op_val (.pointer (some ⟨g0, 5, none⟩)) (by go_simp) (hK _ _ ?_)
    clear hK K
    change wpList _ _ _ _ (a8.put (some 117) (.pointer (some ⟨g0, 5, none⟩))) w3
    generalize ha : a8.put _ _ = a9
    have HSa9 : Hid (a9.tmps.size = 208) := Lib.hid (by rw [← ha]; simp only [size_put, HSa8.out])
    have da9 : Hid (a9.defers = []) := Lib.hid (by rw [← ha]; simp only [defers_put]; exact da8.out)
    have e117a9 : a9.eval (.tmp 117) = (.pointer (some ⟨g0, 5, none⟩)) := by rw [← ha]; simp [eval_put, size_put, HSa8.out]
    have e1a9 : a9.eval (.tmp 1) = (.pointer (some ⟨b0, 0, none⟩)) := by rw [← ha]; simp only [eval_put]; exact e1a8
    have e2a9 : a9.eval (.tmp 2) = (.pointer (some ⟨b0 + 1, 0, none⟩)) := by rw [← ha]; simp only [eval_put]; exact e2a8
    have e3a9 : a9.eval (.tmp 3) = (.pointer (some ⟨g0, 0, none⟩)) := by rw [← ha]; simp only [eval_put]; exact e3a8
    have e6a9 : a9.eval (.tmp 6) = (.int .i64 j) := by rw [← ha]; simp only [eval_put]; exact e6a8
    have e7a9 : a9.eval (.tmp 7) = (.pointer (some ⟨wr.heap.size, 0, none⟩)) := by rw [← ha]; simp only [eval_put]; exact e7a8
    have e116a9 : a9.eval (.tmp 116) = v' := by rw [← ha]; simp only [eval_put]; exact e116a8
    clear ha
    have z116 := ev e116a9
    have z117 := ev e117a9
    obtain ⟨A', c', N', hv'⟩ : ∃ A' c' N', v' = .slice A' N' c' := by obtain ⟨A', c', hv', -⟩ := ho3.form; exact ⟨A', c', _, hv'⟩
    subst hv'
    refine wpList_plain rfl fun K hK => ?_
    have HK2 := Lib.hid hK
    clear hK
    go_simp
    refine HK2.out _ _ ?_
    clear HK2 K
    change K3 a9 _
    have HH3 := Lib.hid hK3
    clear hK3
    rw [fr_of a9 HSa9.out da9.out]
    have F1 : (fun i => a9.eval (.tmp i)) 1 = .pointer (some ⟨b0, 0, none⟩) := e1a9
    have F2 : (fun i => a9.eval (.tmp i)) 2 = .pointer (some ⟨b0 + 1, 0, none⟩) := e2a9
    have F3 : (fun i => a9.eval (.tmp i)) 3 = .pointer (some ⟨g0, 0, none⟩) := e3a9
    have F4 : (fun i => a9.eval (.tmp i)) 6 = .int .i64 j := e6a9
    generalize (fun i => a9.eval (.tmp i)) = f' at F1 F2 F3 F4 ⊢
    refine HH3.out _ _ ?_
    clear HH3
    unfold fr
    simp only [F1, F2, F3, F4]
    go_wp2_with fail
    refine ⟨⟨⟨rfl, rfl, rfl, rfl, rfl⟩, j + 1, l ++ [⟨t.ty, t.mu, ⟨t.i.n, p⟩⟩], .slice A' N' c', by show Value.int .i64 _ = _; go_num, by omega, ?_, by rw [List.map_append]; exact ho3, ?_⟩, ?_⟩
    · rw [List.map_append, HK.out, List.take_add_one, List.getElem?_map, HX.out]
      simp [kGl]
    · rw [List.set_set] at hcm3
      exact hcm3
    · show m.gl.l.length - (intOf (.int .i64 _)).toNat < m.gl.l.length - (intOf (.int .i64 _)).toNat
      simp [intOf]
      omega
  · have hjl : j = m.gl.l.length := by omega
    subst hjl
    rw [List.take_of_length_le (by simp)] at hk
    obtain ⟨s, hs1, hs2, hs3⟩ := hcm.fin (y := 136) (cells := Gl.cells) ho (by omega) (by unfold RB; omega)
    subst hs2
    have HX := Lib.hid (fun a (hf : Fm b0 g0 a) => hexit a wr s hf (by rw [hs1, hk]) hs3)
    clear hexit
    conv => arg 2; whnf
    unfold fr
    simp only [h1, h2, h3, h4]
    go_wp2_with fail
    exact HX.out _ ⟨rfl, rfl, rfl, rfl, rfl⟩
end Go.Proofs.YtmdgemdollfnhaaGreatDoor

/- A loop of the reference's CopyModule: the types. -/
namespace Go.Proofs.YtmdgemdollfnhaaGreatDoor
open Go.RowKit Trx

/-- what each operation of the region leaves in its slot. -/
def V1 (m : Mo) (b0 g0 j : Nat) (t : Ty) (b o lo1 : Nat) (vo : Value) : Nat → Value → World → Prop
  | 0, v, _ => v = .pointer (some ⟨g0, 0, none⟩)
  | 1, v, _ => v = vo
  | 2, v, _ => ∃ p, v = .slice (some p) 0 0
  | 3, v, _ => v = .pointer (some ⟨b0, 0, none⟩)
  | 4, v, _ => v = .slice (some ⟨b, o, none⟩) m.ty.l.length m.ty.c
  | 5, v, _ => v = .int .i64 j
  | 6, v, _ => v = .pointer (some ⟨b, o + j * 2, none⟩)
  | 7, v, _ => v = .pointer (some ⟨b, o + j * 2, none⟩)
  | 8, v, _ => v = t.p.v
  | 9, v, w => ∃ l : IL, v = l.v ∧ l.zs = t.p.zs ∧ Hang (Win lo1 w) w (fun w B => l.ok w B)
  | 10, v, _ => ∃ p, v = .slice (some p) 0 0
  | 11, v, _ => v = .pointer (some ⟨b0, 0, none⟩)
  | 12, v, _ => v = .slice (some ⟨b, o, none⟩) m.ty.l.length m.ty.c
  | 13, v, _ => v = .int .i64 j
  | 14, v, _ => v = .pointer (some ⟨b, o + j * 2, none⟩)
  | 15, v, _ => v = .pointer (some ⟨b, o + j * 2 + 1, none⟩)
  | 16, v, _ => v = t.r.v
  | 17, v, w => ∃ l : IL, v = l.v ∧ l.zs = t.r.zs ∧ Hang (Win lo1 w) w (fun w B => l.ok w B)
  | 18, v, w => ∃ x : Ty, v = .agg #[x.p.v, x.r.v] ∧ kTy x = kTy t ∧ Hang (Win lo1 w) w (fun w B => x.ok w B)
  | 19, v, w => ∃ (x : Ty) (n : Nat), v = .slice (some ⟨n, 0, none⟩) 1 1 ∧ kTy x = kTy t ∧ Hang (Win lo1 w) w (fun w B => x.ok w B) ∧ n < w.heap.size ∧ ∀ k u, x.cells[k]? = some u → w.cell? ⟨n, k, none⟩ = some u
  | _, _, _ => True
theorem V1.mono {m : Mo} {b0 g0 j : Nat} {t : Ty} {b o lo1 : Nat} {vo : Value} (i : Nat) (v : Value) (w w' : World) (h : V1 m b0 g0 j t b o lo1 vo i v w) (hb : Below w.heap.size w w') : V1 m b0 g0 j t b o lo1 vo i v w' := by
  unfold V1 at *
  split at h
  all_goals try exact h
  · obtain ⟨l, h1, h2, h3⟩ := h; exact ⟨l, h1, h2, h3.later hb⟩
  · obtain ⟨l, h1, h2, h3⟩ := h; exact ⟨l, h1, h2, h3.later hb⟩
  · obtain ⟨l, h1, h2, h3⟩ := h; exact ⟨l, h1, h2, h3.later hb⟩
  · obtain ⟨l, n, h1, h2, h3, h4, h5⟩ := h; exact ⟨l, n, h1, h2, h3.later hb, Nat.lt_of_lt_of_le h4 hb.size, fun k u hk => (hb.cell (p := ⟨n, k, none⟩) h4).trans (h5 k u hk)⟩
theorem elem_ty : ElemK Tryz.prog 38 2 48 := ElemK.mk_ (z := .agg #[.slice none 0 0, .slice none 0 0]) (by kernel_rfl) rfl
theorem Ty.one (t : Ty) : ∀ u ∈ t.cells, u.oneCell' = true := by
  intro u hu
  simp [Ty.cells, In.cells, insC] at hu
  rcases hu with rfl | rfl <;> rfl

set_option maxHeartbeats 8000000 in
set_option maxRecDepth 100000 in
theorem loop_ty (m : Mo) (w0 : World) (b0 g0 : Nat) (hC : CmC m w0 b0) (vals : List Value) (hv : vals.set 0 (.slice none 0 0) = vals) (Ds : List (World → Nat → Prop)) (Q0 : Exit → Act → World → Prop)
    (hexit : ∀ (a : Act) (wr : World) (s : SL Ty), Fm b0 g0 a → s.l.map kTy = m.ty.l.map kTy →
      (∀ {β : Type} (q' : World → Nat → β → Prop), Cm w0.heap.size g0 w0 wr (.slice none 0 0) (vals.set 0 s.v) q' [] ((fun w B => s.ok Ty.cells Ty.ok 2 48 w B) :: Ds)) → Q0 (.exit 0) a wr)
    (a : Act) (w : World) (hf : Fm b0 g0 a) (h4 : a.eval (.tmp 4) = .int .i64 0) (hcm : Cm w0.heap.size g0 w0 w (.slice none 0 0) vals Ty.ok [] Ds) :
    (Code.loop (cmBody 0)).wp Tryz.prog Q0 a w := by
  have hle : m.ty.l.length * 48 ≤ 140737488351232 := by have := hC.ok.ty.rb; unfold RB at this; exact this
  refine wp_loop (fun a wr => Fm b0 g0 a ∧ ∃ (j : Nat) (l : List Ty) (v : Value), a.eval (.tmp 4) = .int .i64 j ∧ j ≤ m.ty.l.length ∧ l.map kTy = (m.ty.l.map kTy).take j ∧
    OwnK w0.heap.size w0 wr 38 2 v (l.map Ty.cells) ∧ Cm w0.heap.size g0 w0 wr v (vals.set 0 v) Ty.ok l Ds) (fun a _ => m.ty.l.length - (intOf (a.eval (.tmp 4))).toNat)
    ⟨hf, 0, [], .slice none 0 0, h4, by omega, by simp, OwnK.nil_ _ _ _ _ hcm.below (Nat.le_trans hcm.hlo (Nat.le_of_lt hcm.lt)), by rw [hv]; exact hcm⟩ ?_
  clear hf h4 hcm a w
  rintro a wr ⟨hf, j, l, v, h4, hj, hk, ho, hcm⟩
  rw [fr_of a hf.size hf.defers]
  have h1 : (fun i => a.eval (.tmp i)) 1 = .pointer (some ⟨b0, 0, none⟩) := hf.e1
  have h2 : (fun i => a.eval (.tmp i)) 2 = .pointer (some ⟨b0 + 1, 0, none⟩) := hf.e2
  have h3 : (fun i => a.eval (.tmp i)) 3 = .pointer (some ⟨g0, 0, none⟩) := hf.e3
  replace h4 : (fun i => a.eval (.tmp i)) 4 = .int .i64 j := h4
  generalize (fun i => a.eval (.tmp i)) = f at h1 h2 h3 h4 ⊢
  clear hf a
  have hll : l.length = j := by have := congrArg List.length hk; simp at this; omega
  have hbel := hcm.below
  have hb0 : b0 < wr.heap.size := Nat.lt_of_lt_of_le hC.lt hbel.size
  have hc0 : wr.cell? ⟨b0, 0, none⟩ = some (.slice m.ty.A m.ty.l.length m.ty.c) := (hbel.cell (p := ⟨b0, 0, none⟩) hC.lt).trans (hC.box 0 (by omega))
  by_cases hlt : j < m.ty.l.length
  · obtain ⟨b, o, t, hA, hx, hb, hok, hcell⟩ := hC.ok.ty.at_ hlt
    have q0 : wr.cell? ⟨b, o + j * 2, none⟩ = some (t.p.v) := (hbel.cell (p := ⟨b, _, none⟩) hb).trans (hcell 0 (by omega))
    have q1 : wr.cell? ⟨b, o + j * 2 + 1, none⟩ = some (t.r.v) := (hbel.cell (p := ⟨b, _, none⟩) hb).trans (hcell 1 (by omega))
    have hb' := Nat.lt_of_lt_of_le hb hbel.size
    have g1 : wr.cell? ⟨g0, 0, none⟩ = some v := (hcm.cells 0 (by omega)).trans (by have := hcm.n; simp at this; simp [this])
    have hok' := hok.keep hbel.size (Below.kp hbel)
    conv => arg 2; whnf
    unfold fr
    simp only [h1, h2, h3, h4]
    go_wp2_with fail
    refine gen_act 4 208 (v1 := .pointer (some ⟨b0, 0, none⟩)) (v2 := .pointer (some ⟨b0 + 1, 0, none⟩)) (v3 := .pointer (some ⟨g0, 0, none⟩)) (vk := .int .i64 j) _ rfl rfl rfl rfl rfl rfl ?_
    intro a hsz hd e1 e2 e3 e4
    refine region_vals 20 23 (V1 m b0 g0 j t b o wr.heap.size v) (fun i => i + 37) a wr (by kernel_rfl) rfl (by omega) (by kernel_rfl) (by kernel_rfl) (by kernel_rfl) (by rw [hsz]; kernel_rfl) V1.mono ?_ ?_
    · intro i hi a1 w1 hB hV
      have hbw : Below wr.heap.size wr w1 := ((Below.refl wr.heap.size wr).drew).trans hB.below
      have z1 := ev ((hB.same 1 (fun i _ => by omega)).trans e1)
      have z3 := ev ((hB.same 3 (fun i _ => by omega)).trans e3)
      have z4 := ev ((hB.same 4 (fun i _ => by omega)).trans e4)
      have c0 := (hbw.cell (p := ⟨b0, 0, none⟩) hb0).trans hc0
      have c3 := (hbw.cell (p := ⟨g0, 0, none⟩) hcm.lt).trans g1
      have p0 := (hbw.cell (p := ⟨b, _, none⟩) hb').trans q0
      have p1 := (hbw.cell (p := ⟨b, _, none⟩) hb').trans q1
      have hok1 := hok'.keep hbw.size (Below.kp hbw)
      match i, hi with
      | 0, _ =>
        exact op_plain rfl rfl (op_val (.pointer (some ⟨g0, 0, none⟩)) (by go_simp) ⟨_, rfl, Below.refl _ _, rfl⟩)
      | 1, _ =>
        have k0 := ev (show a1.eval (.tmp 37) = _ from hV ⟨0, .data⟩ (.head _) rfl)
        exact op_plain rfl rfl (op_val (v) (by go_simp) ⟨_, rfl, Below.refl _ _, rfl⟩)
      | 2, _ =>
        exact op_plain rfl rfl (by go_simp; exact ⟨_, rfl, (Below.refl _ _).alloc (Nat.le_refl _) _, ⟨_, rfl⟩⟩)
      | 3, _ =>
        exact op_plain rfl rfl (op_val (.pointer (some ⟨b0, 0, none⟩)) (by go_simp) ⟨_, rfl, Below.refl _ _, rfl⟩)
      | 4, _ =>
        have k0 := ev (show a1.eval (.tmp 40) = _ from hV ⟨3, .data⟩ (.head _) rfl)
        exact op_plain rfl rfl (op_val (.slice (some ⟨b, o, none⟩) m.ty.l.length m.ty.c) (by go_simp) ⟨_, rfl, Below.refl _ _, rfl⟩)
      | 5, _ =>
        exact op_plain rfl rfl (op_val (.int .i64 j) (by go_simp) ⟨_, rfl, Below.refl _ _, rfl⟩)
      | 6, _ =>
        have k0 := ev (show a1.eval (.tmp 41) = _ from hV ⟨4, .data⟩ (.head _) rfl)
        have k1 := ev (show a1.eval (.tmp 42) = _ from hV ⟨5, .data⟩ (.tail _ (.head _)) rfl)
        exact op_plain rfl rfl (op_val (.pointer (some ⟨b, o + j * 2, none⟩)) (by go_simp) ⟨_, rfl, Below.refl _ _, rfl⟩)
      | 7, _ =>
        have k0 := ev (show a1.eval (.tmp 43) = _ from hV ⟨6, .data⟩ (.head _) rfl)
        exact op_plain rfl rfl (op_val (.pointer (some ⟨b, o + j * 2, none⟩)) (by go_simp) ⟨_, rfl, Below.refl _ _, rfl⟩)
      | 8, _ =>
        have k0 := ev (show a1.eval (.tmp 44) = _ from hV ⟨7, .data⟩ (.head _) rfl)
        exact op_plain rfl rfl (op_val (t.p.v) (by go_simp) ⟨_, rfl, Below.refl _ _, rfl⟩)
      | 9, _ =>
        have hi1 := hok1.p
        obtain ⟨p, k0⟩ : ∃ p, a1.eval (.tmp 39) = .slice (some p) 0 0 := hV ⟨2, .data⟩ (.head _) rfl
        have k1 : a1.eval (.tmp 45) = t.p.v := hV ⟨8, .data⟩ (.tail _ (.head _)) rfl
        refine op_plain rfl rfl (op_cat0 (.tmp 39) (.tmp 45) _ rfl 8 Tryz.underlying36 elem_int (by decide) p k0 k1 hi1.sl.ones (ones_len _) (by simp) (n64_one _) (by have := hi1.rb; unfold RB at this; omega) (by have := hi1.le; have := hi1.c; omega) fun A' c' w' y1 y2 y3 y4 => ?_)
        exact ⟨_, rfl, y3, ⟨t.p.zs, A', c'⟩, rfl, rfl, (hang_il y4 y1 y2 hi1.rb hi1.inI).lower hbw.size⟩
      | 10, _ =>
        exact op_plain rfl rfl (by go_simp; exact ⟨_, rfl, (Below.refl _ _).alloc (Nat.le_refl _) _, ⟨_, rfl⟩⟩)
      | 11, _ =>
        exact op_plain rfl rfl (op_val (.pointer (some ⟨b0, 0, none⟩)) (by go_simp) ⟨_, rfl, Below.refl _ _, rfl⟩)
      | 12, _ =>
        have k0 := ev (show a1.eval (.tmp 48) = _ from hV ⟨11, .data⟩ (.head _) rfl)
        exact op_plain rfl rfl (op_val (.slice (some ⟨b, o, none⟩) m.ty.l.length m.ty.c) (by go_simp) ⟨_, rfl, Below.refl _ _, rfl⟩)
      | 13, _ =>
        exact op_plain rfl rfl (op_val (.int .i64 j) (by go_simp) ⟨_, rfl, Below.refl _ _, rfl⟩)
      | 14, _ =>
        have k0 := ev (show a1.eval (.tmp 49) = _ from hV ⟨12, .data⟩ (.head _) rfl)
        have k1 := ev (show a1.eval (.tmp 50) = _ from hV ⟨13, .data⟩ (.tail _ (.head _)) rfl)
        exact op_plain rfl rfl (op_val (.pointer (some ⟨b, o + j * 2, none⟩)) (by go_simp) ⟨_, rfl, Below.refl _ _, rfl⟩)
      | 15, _ =>
        have k0 := ev (show a1.eval (.tmp 51) = _ from hV ⟨14, .data⟩ (.head _) rfl)
        exact op_plain rfl rfl (op_val (.pointer (some ⟨b, o + j * 2 + 1, none⟩)) (by go_simp) ⟨_, rfl, Below.refl _ _, rfl⟩)
      | 16, _ =>
        have k0 := ev (show a1.eval (.tmp 52) = _ from hV ⟨15, .data⟩ (.head _) rfl)
        exact op_plain rfl rfl (op_val (t.r.v) (by go_simp) ⟨_, rfl, Below.refl _ _, rfl⟩)
      | 17, _ =>
        have hi1 := hok1.r
        obtain ⟨p, k0⟩ : ∃ p, a1.eval (.tmp 47) = .slice (some p) 0 0 := hV ⟨10, .data⟩ (.head _) rfl
        have k1 : a1.eval (.tmp 53) = t.r.v := hV ⟨16, .data⟩ (.tail _ (.head _)) rfl
        refine op_plain rfl rfl (op_cat0 (.tmp 47) (.tmp 53) _ rfl 8 Tryz.underlying36 elem_int (by decide) p k0 k1 hi1.sl.ones (ones_len _) (by simp) (n64_one _) (by have := hi1.rb; unfold RB at this; omega) (by have := hi1.le; have := hi1.c; omega) fun A' c' w' y1 y2 y3 y4 => ?_)
        exact ⟨_, rfl, y3, ⟨t.r.zs, A', c'⟩, rfl, rfl, (hang_il y4 y1 y2 hi1.rb hi1.inI).lower hbw.size⟩
      | 18, _ =>
        obtain ⟨l0, k0, k0', k0''⟩ : ∃ l : IL, a1.eval (.tmp 46) = l.v ∧ l.zs = t.p.zs ∧ Hang (Win wr.heap.size w1) w1 (fun w B => l.ok w B) := hV ⟨9, .data⟩ (.head _) rfl
        have k0 := ev k0
        obtain ⟨l1, k1, k1', k1''⟩ : ∃ l : IL, a1.eval (.tmp 54) = l.v ∧ l.zs = t.r.zs ∧ Hang (Win wr.heap.size w1) w1 (fun w B => l.ok w B) := hV ⟨17, .data⟩ (.tail _ (.head _)) rfl
        have k1 := ev k1
        exact op_plain rfl rfl (op_val (.agg #[l0.v, l1.v]) (by go_simp) ⟨_, rfl, Below.refl _ _, ⟨l0, l1⟩, rfl, by simp [kTy, k0', k1'], (k0''.and k1'').imp fun _ _ h => ⟨h.1, h.2⟩⟩)
      | 19, _ =>
        obtain ⟨x, k0, k0', k0''⟩ : ∃ x : Ty, a1.eval (.tmp 55) = .agg #[x.p.v, x.r.v] ∧ kTy x = kTy t ∧ Hang (Win wr.heap.size w1) w1 (fun w B => x.ok w B) := hV ⟨18, .data⟩ (.head _) rfl
        have k0 := ev k0
        exact op_plain rfl rfl (by go_simp; exact ⟨_, rfl, (Below.refl _ _).alloc (Nat.le_refl _) _, x, w1.heap.size, rfl, k0', k0''.later ((Below.refl _ _).alloc (Nat.le_refl _) _), by simp, fun k u hk => by rw [World.cell?_alloc_at _ _ _ _ rfl]; simpa [Ty.cells, In.cells, insC] using hk⟩)
      | n + 20, h => exact absurd h (by omega)
    · intro a1 w1 hB hV
      have hbw : Below wr.heap.size wr w1 := ((Below.refl wr.heap.size wr).drew).trans hB.below
      have x1 := (hB.same 1 (fun i _ => by omega)).trans e1
      have x2 := (hB.same 2 (fun i _ => by omega)).trans e2
      have x3 := (hB.same 3 (fun i _ => by omega)).trans e3
      have x4 := (hB.same 4 (fun i _ => by omega)).trans e4
      have k1 : a1.eval (.tmp 38) = v := hV 1 (by omega)
      obtain ⟨x, n, k2, kx, kh, kn, kc⟩ : ∃ (x : Ty) (n : Nat), a1.eval (.tmp 56) = .slice (some ⟨n, 0, none⟩) 1 1 ∧ kTy x = kTy t ∧ Hang (Win wr.heap.size w1) w1 (fun w B => x.ok w B) ∧ n < w1.heap.size ∧ ∀ k u, x.cells[k]? = some u → w1.cell? ⟨n, k, none⟩ = some u := hV 19 (by omega)
      have hs1 := Lib.hid (hB.size.trans hsz)
      have hd1 := hB.defers.trans hd
      clear hV
      refine ready_one (i := 20) (by kernel_rfl) rfl rfl ?_
      refine op_push (.tmp 38) (.tmp 56) _ rfl 48 Tryz.underlying22 elem_ty (by decide) x.cells 1 n k1 (ho.later hbw) k2 rfl kc x.one (by simp; omega) (by simp; unfold maxLen; omega) fun v' w2 ho2 hk2 hz2 => ?_
      obtain ⟨hcm3, ho3⟩ := hcm.push ho hbw kh (by simpa using ho2) hk2 hz2 0 (by omega)
      have gB := (hk2 g0 (Nat.lt_of_lt_of_le hcm.lt hbw.size) hcm.own).1
      have g2 : w2.cell? ⟨g0, 0, none⟩ = some v := (World.cell?_of_block gB).trans ((hbw.cell (p := ⟨g0, 0, none⟩) hcm.lt).trans g1)
      have g3 : w2.frozen? ⟨g0, 0, none⟩ = false := (frozen_of_block gB).trans ((hbw.frozen (p := ⟨g0, 0, none⟩) hcm.lt).trans (hcm.frz 0))
      clear hk2 hz2 gB kh kc kn k2 k1 ho2
      change wpAnyH _ _ _ _ _ _ _ (a1.put (some 57) v') w2
      generalize ha2 : a1.put _ v' = a2
      have s2 : Hid (a2.tmps.size = 208) := Lib.hid (by rw [← ha2]; simp only [size_put, hs1.out])
      have d2 : a2.defers = [] := by rw [← ha2, defers_put, hd1]
      have u57 : a2.eval (.tmp 57) = v' := by rw [← ha2]; simp [eval_put, hs1.out]
      have u1 : a2.eval (.tmp 1) = .pointer (some ⟨b0, 0, none⟩) := by rw [← ha2]; simp only [eval_put]; exact x1
      have u2 : a2.eval (.tmp 2) = .pointer (some ⟨b0 + 1, 0, none⟩) := by rw [← ha2]; simp only [eval_put]; exact x2
      have u3 : a2.eval (.tmp 3) = .pointer (some ⟨g0, 0, none⟩) := by rw [← ha2]; simp only [eval_put]; exact x3
      have u4 : a2.eval (.tmp 4) = .int .i64 j := by rw [← ha2]; simp only [eval_put]; exact x4
      clear ha2
      refine ready_one (i := 21) (by kernel_rfl) rfl rfl ?_
      have z3 := ev u3
      refine op_val (.pointer (some ⟨g0, 0, none⟩)) (by go_simp) ?_
      change wpAnyH _ _ _ _ _ _ _ (a2.put (some 58) (.pointer (some ⟨g0, 0, none⟩))) w2
      generalize ha3 : a2.put _ _ = a3
      have s3 : Hid (a3.tmps.size = 208) := Lib.hid (by rw [← ha3]; simp only [size_put, s2.out])
      have d3 : a3.defers = [] := by rw [← ha3, defers_put, d2]
      have t58 : a3.eval (.tmp 58) = .pointer (some ⟨g0, 0, none⟩) := by rw [← ha3]; simp [eval_put, s2.out]
      have t57 : a3.eval (.tmp 57) = v' := by rw [← ha3]; simp only [eval_put]; exact u57
      have t1 : a3.eval (.tmp 1) = .pointer (some ⟨b0, 0, none⟩) := by rw [← ha3]; simp only [eval_put]; exact u1
      have t2 : a3.eval (.tmp 2) = .pointer (some ⟨b0 + 1, 0, none⟩) := by rw [← ha3]; simp only [eval_put]; exact u2
      have t3 : a3.eval (.tmp 3) = .pointer (some ⟨g0, 0, none⟩) := by rw [← ha3]; simp only [eval_put]; exact u3
      have t4 : a3.eval (.tmp 4) = .int .i64 j := by rw [← ha3]; simp only [eval_put]; exact u4
      clear ha3
      refine ready_one (i := 22) (by kernel_rfl) rfl rfl ?_
      have z57 := ev t57
      have z58 := ev t58
      obtain ⟨A', c', N', hv'⟩ : ∃ A' c' N', v' = .slice A' N' c' := by obtain ⟨A', c', hv', -⟩ := ho3.form; exact ⟨A', c', _, hv'⟩
      subst hv'
      go_simp
      refine ready_none (by kernel_rfl) ?_
      change Exit.inBlock _ _ _ a3 _
      rw [fr_of a3 s3.out d3]
      have F1 : (fun i => a3.eval (.tmp i)) 1 = .pointer (some ⟨b0, 0, none⟩) := t1
      have F2 : (fun i => a3.eval (.tmp i)) 2 = .pointer (some ⟨b0 + 1, 0, none⟩) := t2
      have F3 : (fun i => a3.eval (.tmp i)) 3 = .pointer (some ⟨g0, 0, none⟩) := t3
      have F4 : (fun i => a3.eval (.tmp i)) 4 = .int .i64 j := t4
      generalize (fun i => a3.eval (.tmp i)) = f' at F1 F2 F3 F4 ⊢
      clear t1 t2 t3 t4 t57 t58 z57 z58 s3 d3 a3 z3 u1 u2 u3 u4 u57 s2 d2 a2 x1 x2 x3 x4 hs1 hd1 hB a1 e1 e2 e3 e4 hsz hd a hexit
      unfold fr
      simp only [F1, F2, F3, F4]
      go_wp2_with fail
      refine ⟨⟨⟨rfl, rfl, rfl, rfl, rfl⟩, j + 1, l ++ [x], .slice A' N' c', by show Value.int .i64 _ = _; go_num, by omega, ?_, by rw [List.map_append]; exact ho3, ?_⟩, ?_⟩
      · rw [List.map_append, hk, List.take_add_one, List.getElem?_map, hx]
        simp [kx]
      · rw [List.set_set] at hcm3
        exact hcm3
      · show m.ty.l.length - (intOf (.int .i64 _)).toNat < m.ty.l.length - (intOf (.int .i64 _)).toNat
        simp [intOf]
        omega
  · have hjl : j = m.ty.l.length := by omega
    subst hjl
    rw [List.take_of_length_le (by simp)] at hk
    obtain ⟨s, hs1, hs2, hs3⟩ := hcm.fin (y := 48) (cells := Ty.cells) ho (by omega) (by unfold RB; omega)
    subst hs2
    have HX := Lib.hid (fun a (hf : Fm b0 g0 a) => hexit a wr s hf (by rw [hs1, hk]) hs3)
    clear hexit
    conv => arg 2; whnf
    unfold fr
    simp only [h1, h2, h3, h4]
    go_wp2_with fail
    exact HX.out _ ⟨rfl, rfl, rfl, rfl, rfl⟩
end Go.Proofs.YtmdgemdollfnhaaGreatDoor

/- A loop of the reference's CopyModule: the functions. -/
namespace Go.Proofs.YtmdgemdollfnhaaGreatDoor
open Go.RowKit Trx

/-- what each operation of the region leaves in its slot. -/
def V2 (m : Mo) (b0 g0 j : Nat) (t : Fn) (b o lo1 : Nat) (vo : Value) : Nat → Value → World → Prop
  | 0, v, _ => v = .pointer (some ⟨g0, 2, none⟩)
  | 1, v, _ => v = vo
  | 2, v, _ => v = .pointer (some ⟨b0, 2, none⟩)
  | 3, v, _ => v = .slice (some ⟨b, o, none⟩) m.fn.l.length m.fn.c
  | 4, v, _ => v = .int .i64 j
  | 5, v, _ => v = .pointer (some ⟨b, o + j * 3, none⟩)
  | 6, v, _ => v = .pointer (some ⟨b, o + j * 3, none⟩)
  | 7, v, _ => v = .int .i64 t.ty
  | 8, v, _ => ∃ p, v = .slice (some p) 0 0
  | 9, v, _ => v = .pointer (some ⟨b0, 2, none⟩)
  | 10, v, _ => v = .slice (some ⟨b, o, none⟩) m.fn.l.length m.fn.c
  | 11, v, _ => v = .int .i64 j
  | 12, v, _ => v = .pointer (some ⟨b, o + j * 3, none⟩)
  | 13, v, _ => v = .pointer (some ⟨b, o + j * 3 + 1, none⟩)
  | 14, v, _ => v = t.lo.v
  | 15, v, w => ∃ l : IL, v = l.v ∧ l.zs = t.lo.zs ∧ Hang (Win lo1 w) w (fun w B => l.ok w B)
  | 16, v, _ => v = .pointer (some ⟨b0, 2, none⟩)
  | 17, v, _ => v = .slice (some ⟨b, o, none⟩) m.fn.l.length m.fn.c
  | 18, v, _ => v = .int .i64 j
  | 19, v, _ => v = .pointer (some ⟨b, o + j * 3, none⟩)
  | 20, v, _ => v = .pointer (some ⟨b, o + j * 3 + 2, none⟩)
  | 21, v, _ => v = t.bo.v
  | 22, v, w => ∃ l : FL, v = l.v ∧ l.f = t.bo.f ∧ Hang (Win lo1 w) w (fun w B => l.ok w B)
  | 23, v, w => ∃ x : Fn, v = .agg #[.int .i64 x.ty, x.lo.v, x.bo.v] ∧ kFn x = kFn t ∧ Hang (Win lo1 w) w (fun w B => x.ok w B)
  | 24, v, w => ∃ (x : Fn) (n : Nat), v = .slice (some ⟨n, 0, none⟩) 1 1 ∧ kFn x = kFn t ∧ Hang (Win lo1 w) w (fun w B => x.ok w B) ∧ n < w.heap.size ∧ ∀ k u, x.cells[k]? = some u → w.cell? ⟨n, k, none⟩ = some u
  | _, _, _ => True
theorem V2.mono {m : Mo} {b0 g0 j : Nat} {t : Fn} {b o lo1 : Nat} {vo : Value} (i : Nat) (v : Value) (w w' : World) (h : V2 m b0 g0 j t b o lo1 vo i v w) (hb : Below w.heap.size w w') : V2 m b0 g0 j t b o lo1 vo i v w' := by
  unfold V2 at *
  split at h
  all_goals try exact h
  · obtain ⟨l, h1, h2, h3⟩ := h; exact ⟨l, h1, h2, h3.later hb⟩
  · obtain ⟨l, h1, h2, h3⟩ := h; exact ⟨l, h1, h2, h3.later hb⟩
  · obtain ⟨l, h1, h2, h3⟩ := h; exact ⟨l, h1, h2, h3.later hb⟩
  · obtain ⟨l, n, h1, h2, h3, h4, h5⟩ := h; exact ⟨l, n, h1, h2, h3.later hb, Nat.lt_of_lt_of_le h4 hb.size, fun k u hk => (hb.cell (p := ⟨n, k, none⟩) h4).trans (h5 k u hk)⟩
theorem elem_fn : ElemK Tryz.prog 53 3 56 := ElemK.mk_ (z := .agg #[.int .i64 0, .slice none 0 0, .slice none 0 0]) (by kernel_rfl) rfl
theorem Fn.one (t : Fn) : ∀ u ∈ t.cells, u.oneCell' = true := by
  intro u hu
  simp [Fn.cells, In.cells, insC] at hu
  rcases hu with rfl | rfl | rfl <;> rfl

set_option maxHeartbeats 8000000 in
set_option maxRecDepth 100000 in
theorem loop_fn (m : Mo) (w0 : World) (b0 g0 : Nat) (hC : CmC m w0 b0) (vals : List Value) (hv : vals.set 2 (.slice none 0 0) = vals) (Ds : List (World → Nat → Prop)) (Q0 : Exit → Act → World → Prop)
    (hexit : ∀ (a : Act) (wr : World) (s : SL Fn), Fm b0 g0 a → s.l.map kFn = m.fn.l.map kFn →
      (∀ {β : Type} (q' : World → Nat → β → Prop), Cm w0.heap.size g0 w0 wr (.slice none 0 0) (vals.set 2 s.v) q' [] ((fun w B => s.ok Fn.cells Fn.ok 3 56 w B) :: Ds)) → Q0 (.exit 2) a wr)
    (a : Act) (w : World) (hf : Fm b0 g0 a) (h4 : a.eval (.tmp 5) = .int .i64 0) (hcm : Cm w0.heap.size g0 w0 w (.slice none 0 0) vals Fn.ok [] Ds) :
    (Code.loop (cmBody 1)).wp Tryz.prog Q0 a w := by
  have hle : m.fn.l.length * 56 ≤ 140737488351232 := by have := hC.ok.fn.rb; unfold RB at this; exact this
  refine wp_loop (fun a wr => Fm b0 g0 a ∧ ∃ (j : Nat) (l : List Fn) (v : Value), a.eval (.tmp 5) = .int .i64 j ∧ j ≤ m.fn.l.length ∧ l.map kFn = (m.fn.l.map kFn).take j ∧
    OwnK w0.heap.size w0 wr 53 3 v (l.map Fn.cells) ∧ Cm w0.heap.size g0 w0 wr v (vals.set 2 v) Fn.ok l Ds) (fun a _ => m.fn.l.length - (intOf (a.eval (.tmp 5))).toNat)
    ⟨hf, 0, [], .slice none 0 0, h4, by omega, by simp, OwnK.nil_ _ _ _ _ hcm.below (Nat.le_trans hcm.hlo (Nat.le_of_lt hcm.lt)), by rw [hv]; exact hcm⟩ ?_
  clear hf h4 hcm a w
  rintro a wr ⟨hf, j, l, v, h4, hj, hk, ho, hcm⟩
  rw [fr_of a hf.size hf.defers]
  have h1 : (fun i => a.eval (.tmp i)) 1 = .pointer (some ⟨b0, 0, none⟩) := hf.e1
  have h2 : (fun i => a.eval (.tmp i)) 2 = .pointer (some ⟨b0 + 1, 0, none⟩) := hf.e2
  have h3 : (fun i => a.eval (.tmp i)) 3 = .pointer (some ⟨g0, 0, none⟩) := hf.e3
  replace h4 : (fun i => a.eval (.tmp i)) 5 = .int .i64 j := h4
  generalize (fun i => a.eval (.tmp i)) = f at h1 h2 h3 h4 ⊢
  clear hf a
  have hll : l.length = j := by have := congrArg List.length hk; simp at this; omega
  have hbel := hcm.below
  have hb0 : b0 < wr.heap.size := Nat.lt_of_lt_of_le hC.lt hbel.size
  have hc0 : wr.cell? ⟨b0, 2, none⟩ = some (.slice m.fn.A m.fn.l.length m.fn.c) := (hbel.cell (p := ⟨b0, 2, none⟩) hC.lt).trans (hC.box 2 (by omega))
  by_cases hlt : j < m.fn.l.length
  · obtain ⟨b, o, t, hA, hx, hb, hok, hcell⟩ := hC.ok.fn.at_ hlt
    have q0 : wr.cell? ⟨b, o + j * 3, none⟩ = some (.int .i64 t.ty) := (hbel.cell (p := ⟨b, _, none⟩) hb).trans (hcell 0 (by omega))
    have q1 : wr.cell? ⟨b, o + j * 3 + 1, none⟩ = some (t.lo.v) := (hbel.cell (p := ⟨b, _, none⟩) hb).trans (hcell 1 (by omega))
    have q2 : wr.cell? ⟨b, o + j * 3 + 2, none⟩ = some (t.bo.v) := (hbel.cell (p := ⟨b, _, none⟩) hb).trans (hcell 2 (by omega))
    have hb' := Nat.lt_of_lt_of_le hb hbel.size
    have g1 : wr.cell? ⟨g0, 2, none⟩ = some v := (hcm.cells 2 (by omega)).trans (by have := hcm.n; simp at this; simp [this])
    have hok' := hok.keep hbel.size (Below.kp hbel)
    conv => arg 2; whnf
    unfold fr
    simp only [h1, h2, h3, h4]
    go_wp2_with fail
    refine gen_act 5 208 (v1 := .pointer (some ⟨b0, 0, none⟩)) (v2 := .pointer (some ⟨b0 + 1, 0, none⟩)) (v3 := .pointer (some ⟨g0, 0, none⟩)) (vk := .int .i64 j) _ rfl rfl rfl rfl rfl rfl ?_
    intro a hsz hd e1 e2 e3 e4
    refine region_vals 25 28 (V2 m b0 g0 j t b o wr.heap.size v) (fun i => i + 66) a wr (by kernel_rfl) rfl (by omega) (by kernel_rfl) (by kernel_rfl) (by kernel_rfl) (by rw [hsz]; kernel_rfl) V2.mono ?_ ?_
    · intro i hi a1 w1 hB hV
      have hbw : Below wr.heap.size wr w1 := ((Below.refl wr.heap.size wr).drew).trans hB.below
      have z1 := ev ((hB.same 1 (fun i _ => by omega)).trans e1)
      have z3 := ev ((hB.same 3 (fun i _ => by omega)).trans e3)
      have z4 := ev ((hB.same 5 (fun i _ => by omega)).trans e4)
      have c0 := (hbw.cell (p := ⟨b0, 2, none⟩) hb0).trans hc0
      have c3 := (hbw.cell (p := ⟨g0, 2, none⟩) hcm.lt).trans g1
      have p0 := (hbw.cell (p := ⟨b, _, none⟩) hb').trans q0
      have p1 := (hbw.cell (p := ⟨b, _, none⟩) hb').trans q1
      have p2 := (hbw.cell (p := ⟨b, _, none⟩) hb').trans q2
      have hok1 := hok'.keep hbw.size (Below.kp hbw)
      match i, hi with
      | 0, _ =>
        exact op_plain rfl rfl (op_val (.pointer (some ⟨g0, 2, none⟩)) (by go_simp) ⟨_, rfl, Below.refl _ _, rfl⟩)
      | 1, _ =>
        have k0 := ev (show a1.eval (.tmp 66) = _ from hV ⟨0, .data⟩ (.head _) rfl)
        exact op_plain rfl rfl (op_val (v) (by go_simp) ⟨_, rfl, Below.refl _ _, rfl⟩)
      | 2, _ =>
        exact op_plain rfl rfl (op_val (.pointer (some ⟨b0, 2, none⟩)) (by go_simp) ⟨_, rfl, Below.refl _ _, rfl⟩)
      | 3, _ =>
        have k0 := ev (show a1.eval (.tmp 68) = _ from hV ⟨2, .data⟩ (.head _) rfl)
        exact op_plain rfl rfl (op_val (.slice (some ⟨b, o, none⟩) m.fn.l.length m.fn.c) (by go_simp) ⟨_, rfl, Below.refl _ _, rfl⟩)
      | 4, _ =>
        exact op_plain rfl rfl (op_val (.int .i64 j) (by go_simp) ⟨_, rfl, Below.refl _ _, rfl⟩)
      | 5, _ =>
        have k0 := ev (show a1.eval (.tmp 69) = _ from hV ⟨3, .data⟩ (.head _) rfl)
        have k1 := ev (show a1.eval (.tmp 70) = _ from hV ⟨4, .data⟩ (.tail _ (.head _)) rfl)
        exact op_plain rfl rfl (op_val (.pointer (some ⟨b, o + j * 3, none⟩)) (by go_simp) ⟨_, rfl, Below.refl _ _, rfl⟩)
      | 6, _ =>
        have k0 := ev (show a1.eval (.tmp 71) = _ from hV ⟨5, .data⟩ (.head _) rfl)
        exact op_plain rfl rfl (op_val (.pointer (some ⟨b, o + j * 3, none⟩)) (by go_simp) ⟨_, rfl, Below.refl _ _, rfl⟩)
      | 7, _ =>
        have k0 := ev (show a1.eval (.tmp 72) = _ from hV ⟨6, .data⟩ (.head _) rfl)
        exact op_plain rfl rfl (op_val (.int .i64 t.ty) (by go_simp) ⟨_, rfl, Below.refl _ _, rfl⟩)
      | 8, _ =>
        exact op_plain rfl rfl (by go_simp; exact ⟨_, rfl, (Below.refl _ _).alloc (Nat.le_refl _) _, ⟨_, rfl⟩⟩)
      | 9, _ =>
        exact op_plain rfl rfl (op_val (.pointer (some ⟨b0, 2, none⟩)) (by go_simp) ⟨_, rfl, Below.refl _ _, rfl⟩)
      | 10, _ =>
        have k0 := ev (show a1.eval (.tmp 75) = _ from hV ⟨9, .data⟩ (.head _) rfl)
        exact op_plain rfl rfl (op_val (.slice (some ⟨b, o, none⟩) m.fn.l.length m.fn.c) (by go_simp) ⟨_, rfl, Below.refl _ _, rfl⟩)
      | 11, _ =>
        exact op_plain rfl rfl (op_val (.int .i64 j) (by go_simp) ⟨_, rfl, Below.refl _ _, rfl⟩)
      | 12, _ =>
        have k0 := ev (show a1.eval (.tmp 76) = _ from hV ⟨10, .data⟩ (.head _) rfl)
        have k1 := ev (show a1.eval (.tmp 77) = _ from hV ⟨11, .data⟩ (.tail _ (.head _)) rfl)
        exact op_plain rfl rfl (op_val (.pointer (some ⟨b, o + j * 3, none⟩)) (by go_simp) ⟨_, rfl, Below.refl _ _, rfl⟩)
      | 13, _ =>
        have k0 := ev (show a1.eval (.tmp 78) = _ from hV ⟨12, .data⟩ (.head _) rfl)
        exact op_plain rfl rfl (op_val (.pointer (some ⟨b, o + j * 3 + 1, none⟩)) (by go_simp) ⟨_, rfl, Below.refl _ _, rfl⟩)
      | 14, _ =>
        have k0 := ev (show a1.eval (.tmp 79) = _ from hV ⟨13, .data⟩ (.head _) rfl)
        exact op_plain rfl rfl (op_val (t.lo.v) (by go_simp) ⟨_, rfl, Below.refl _ _, rfl⟩)
      | 15, _ =>
        have hi1 := hok1.lo
        obtain ⟨p, k0⟩ : ∃ p, a1.eval (.tmp 74) = .slice (some p) 0 0 := hV ⟨8, .data⟩ (.head _) rfl
        have k1 : a1.eval (.tmp 80) = t.lo.v := hV ⟨14, .data⟩ (.tail _ (.head _)) rfl
        refine op_plain rfl rfl (op_cat0 (.tmp 74) (.tmp 80) _ rfl 8 Tryz.underlying36 elem_int (by decide) p k0 k1 hi1.sl.ones (ones_len _) (by simp) (n64_one _) (by have := hi1.rb; unfold RB at this; omega) (by have := hi1.le; have := hi1.c; omega) fun A' c' w' y1 y2 y3 y4 => ?_)
        exact ⟨_, rfl, y3, ⟨t.lo.zs, A', c'⟩, rfl, rfl, (hang_il y4 y1 y2 hi1.rb hi1.inI).lower hbw.size⟩
      | 16, _ =>
        exact op_plain rfl rfl (op_val (.pointer (some ⟨b0, 2, none⟩)) (by go_simp) ⟨_, rfl, Below.refl _ _, rfl⟩)
      | 17, _ =>
        have k0 := ev (show a1.eval (.tmp 82) = _ from hV ⟨16, .data⟩ (.head _) rfl)
        exact op_plain rfl rfl (op_val (.slice (some ⟨b, o, none⟩) m.fn.l.length m.fn.c) (by go_simp) ⟨_, rfl, Below.refl _ _, rfl⟩)
      | 18, _ =>
        exact op_plain rfl rfl (op_val (.int .i64 j) (by go_simp) ⟨_, rfl, Below.refl _ _, rfl⟩)
      | 19, _ =>
        have k0 := ev (show a1.eval (.tmp 83) = _ from hV ⟨17, .data⟩ (.head _) rfl)
        have k1 := ev (show a1.eval (.tmp 84) = _ from hV ⟨18, .data⟩ (.tail _ (.head _)) rfl)
        exact op_plain rfl rfl (op_val (.pointer (some ⟨b, o + j * 3, none⟩)) (by go_simp) ⟨_, rfl, Below.refl _ _, rfl⟩)
      | 20, _ =>
        have k0 := ev (show a1.eval (.tmp 85) = _ from hV ⟨19, .data⟩ (.head _) rfl)
        exact op_plain rfl rfl (op_val (.pointer (some ⟨b, o + j * 3 + 2, none⟩)) (by go_simp) ⟨_, rfl, Below.refl _ _, rfl⟩)
      | 21, _ =>
        have k0 := ev (show a1.eval (.tmp 86) = _ from hV ⟨20, .data⟩ (.head _) rfl)
        exact op_plain rfl rfl (op_val (t.bo.v) (by go_simp) ⟨_, rfl, Below.refl _ _, rfl⟩)
      | 22, _ =>
        have hi1 := hok1.bo
        have k0 := ev (show a1.eval (.tmp 87) = _ from hV ⟨21, .data⟩ (.head _) rfl)
        have HCp := Lib.hid (Copy_any _ t.bo.f t.bo.A t.bo.c w1 (Nat.le_refl _) hi1.rd hi1.light hi1.rb)
        refine op_plain rfl rfl ?_
        go_simp
        refine HCp.out.mono ?_
        rintro e w' ⟨A', c', rfl, y1, y2, y3, y4, -⟩
        exact ⟨_, rfl, y4, ⟨t.bo.f, A', c'⟩, rfl, rfl, (show Hang (Win w1.heap.size w') w' (fun w B => (⟨t.bo.f, A', c'⟩ : FL).ok w B) from y3.hang.imp fun _ _ h => ⟨y1, y2, hi1.rb, hi1.light, h⟩).lower hbw.size⟩
      | 23, _ =>
        have k0 := ev (show a1.eval (.tmp 73) = _ from hV ⟨7, .data⟩ (.head _) rfl)
        obtain ⟨l1, k1, k1', k1''⟩ : ∃ l : IL, a1.eval (.tmp 81) = l.v ∧ l.zs = t.lo.zs ∧ Hang (Win wr.heap.size w1) w1 (fun w B => l.ok w B) := hV ⟨15, .data⟩ (.tail _ (.head _)) rfl
        have k1 := ev k1
        obtain ⟨l2, k2, k2', k2''⟩ : ∃ l : FL, a1.eval (.tmp 88) = l.v ∧ l.f = t.bo.f ∧ Hang (Win wr.heap.size w1) w1 (fun w B => l.ok w B) := hV ⟨22, .data⟩ (.tail _ (.tail _ (.head _))) rfl
        have k2 := ev k2
        exact op_plain rfl rfl (op_val (.agg #[.int .i64 t.ty, l1.v, l2.v]) (by go_simp) ⟨_, rfl, Below.refl _ _, ⟨t.ty, l1, l2⟩, rfl, by simp [kFn, k1', k2'], (k1''.and k2'').imp fun _ _ h => ⟨hok'.ty, h.1, h.2⟩⟩)
      | 24, _ =>
        obtain ⟨x, k0, k0', k0''⟩ : ∃ x : Fn, a1.eval (.tmp 89) = .agg #[.int .i64 x.ty, x.lo.v, x.bo.v] ∧ kFn x = kFn t ∧ Hang (Win wr.heap.size w1) w1 (fun w B => x.ok w B) := hV ⟨23, .data⟩ (.head _) rfl
        have k0 := ev k0
        exact op_plain rfl rfl (by go_simp; exact ⟨_, rfl, (Below.refl _ _).alloc (Nat.le_refl _) _, x, w1.heap.size, rfl, k0', k0''.later ((Below.refl _ _).alloc (Nat.le_refl _) _), by simp, fun k u hk => by rw [World.cell?_alloc_at _ _ _ _ rfl]; simpa [Fn.cells, In.cells, insC] using hk⟩)
      | n + 25, h => exact absurd h (by omega)
    · intro a1 w1 hB hV
      have hbw : Below wr.heap.size wr w1 := ((Below.refl wr.heap.size wr).drew).trans hB.below
      have x1 := (hB.same 1 (fun i _ => by omega)).trans e1
      have x2 := (hB.same 2 (fun i _ => by omega)).trans e2
      have x3 := (hB.same 3 (fun i _ => by omega)).trans e3
      have x4 := (hB.same 5 (fun i _ => by omega)).trans e4
      have k1 : a1.eval (.tmp 67) = v := hV 1 (by omega)
      obtain ⟨x, n, k2, kx, kh, kn, kc⟩ : ∃ (x : Fn) (n : Nat), a1.eval (.tmp 90) = .slice (some ⟨n, 0, none⟩) 1 1 ∧ kFn x = kFn t ∧ Hang (Win wr.heap.size w1) w1 (fun w B => x.ok w B) ∧ n < w1.heap.size ∧ ∀ k u, x.cells[k]? = some u → w1.cell? ⟨n, k, none⟩ = some u := hV 24 (by omega)
      have hs1 := Lib.hid (hB.size.trans hsz)
      have hd1 := hB.defers.trans hd
      clear hV
      refine ready_one (i := 25) (by kernel_rfl) rfl rfl ?_
      refine op_push (.tmp 67) (.tmp 90) _ rfl 56 Tryz.underlying24 elem_fn (by decide) x.cells 1 n k1 (ho.later hbw) k2 rfl kc x.one (by simp; omega) (by simp; unfold maxLen; omega) fun v' w2 ho2 hk2 hz2 => ?_
      obtain ⟨hcm3, ho3⟩ := hcm.push ho hbw kh (by simpa using ho2) hk2 hz2 2 (by omega)
      have gB := (hk2 g0 (Nat.lt_of_lt_of_le hcm.lt hbw.size) hcm.own).1
      have g2 : w2.cell? ⟨g0, 2, none⟩ = some v := (World.cell?_of_block gB).trans ((hbw.cell (p := ⟨g0, 2, none⟩) hcm.lt).trans g1)
      have g3 : w2.frozen? ⟨g0, 2, none⟩ = false := (frozen_of_block gB).trans ((hbw.frozen (p := ⟨g0, 2, none⟩) hcm.lt).trans (hcm.frz 2))
      clear hk2 hz2 gB kh kc kn k2 k1 ho2
      change wpAnyH _ _ _ _ _ _ _ (a1.put (some 91) v') w2
      generalize ha2 : a1.put _ v' = a2
      have s2 : Hid (a2.tmps.size = 208) := Lib.hid (by rw [← ha2]; simp only [size_put, hs1.out])
      have d2 : a2.defers = [] := by rw [← ha2, defers_put, hd1]
      have u57 : a2.eval (.tmp 91) = v' := by rw [← ha2]; simp [eval_put, hs1.out]
      have u1 : a2.eval (.tmp 1) = .pointer (some ⟨b0, 0, none⟩) := by rw [← ha2]; simp only [eval_put]; exact x1
      have u2 : a2.eval (.tmp 2) = .pointer (some ⟨b0 + 1, 0, none⟩) := by rw [← ha2]; simp only [eval_put]; exact x2
      have u3 : a2.eval (.tmp 3) = .pointer (some ⟨g0, 0, none⟩) := by rw [← ha2]; simp only [eval_put]; exact x3
      have u4 : a2.eval (.tmp 5) = .int .i64 j := by rw [← ha2]; simp only [eval_put]; exact x4
      clear ha2
      refine ready_one (i := 26) (by kernel_rfl) rfl rfl ?_
      have z3 := ev u3
      refine op_val (.pointer (some ⟨g0, 2, none⟩)) (by go_simp) ?_
      change wpAnyH _ _ _ _ _ _ _ (a2.put (some 92) (.pointer (some ⟨g0, 2, none⟩))) w2
      generalize ha3 : a2.put _ _ = a3
      have s3 : Hid (a3.tmps.size = 208) := Lib.hid (by rw [← ha3]; simp only [size_put, s2.out])
      have d3 : a3.defers = [] := by rw [← ha3, defers_put, d2]
      have t58 : a3.eval (.tmp 92) = .pointer (some ⟨g0, 2, none⟩) := by rw [← ha3]; simp [eval_put, s2.out]
      have t57 : a3.eval (.tmp 91) = v' := by rw [← ha3]; simp only [eval_put]; exact u57
      have t1 : a3.eval (.tmp 1) = .pointer (some ⟨b0, 0, none⟩) := by rw [← ha3]; simp only [eval_put]; exact u1
      have t2 : a3.eval (.tmp 2) = .pointer (some ⟨b0 + 1, 0, none⟩) := by rw [← ha3]; simp only [eval_put]; exact u2
      have t3 : a3.eval (.tmp 3) = .pointer (some ⟨g0, 0, none⟩) := by rw [← ha3]; simp only [eval_put]; exact u3
      have t4 : a3.eval (.tmp 5) = .int .i64 j := by rw [← ha3]; simp only [eval_put]; exact u4
      clear ha3
      refine ready_one (i := 27) (by kernel_rfl) rfl rfl ?_
      have z57 := ev t57
      have z58 := ev t58
      obtain ⟨A', c', N', hv'⟩ : ∃ A' c' N', v' = .slice A' N' c' := by obtain ⟨A', c', hv', -⟩ := ho3.form; exact ⟨A', c', _, hv'⟩
      subst hv'
      go_simp
      refine ready_none (by kernel_rfl) ?_
      change Exit.inBlock _ _ _ a3 _
      rw [fr_of a3 s3.out d3]
      have F1 : (fun i => a3.eval (.tmp i)) 1 = .pointer (some ⟨b0, 0, none⟩) := t1
      have F2 : (fun i => a3.eval (.tmp i)) 2 = .pointer (some ⟨b0 + 1, 0, none⟩) := t2
      have F3 : (fun i => a3.eval (.tmp i)) 3 = .pointer (some ⟨g0, 0, none⟩) := t3
      have F4 : (fun i => a3.eval (.tmp i)) 5 = .int .i64 j := t4
      generalize (fun i => a3.eval (.tmp i)) = f' at F1 F2 F3 F4 ⊢
      clear t1 t2 t3 t4 t57 t58 z57 z58 s3 d3 a3 z3 u1 u2 u3 u4 u57 s2 d2 a2 x1 x2 x3 x4 hs1 hd1 hB a1 e1 e2 e3 e4 hsz hd a hexit
      unfold fr
      simp only [F1, F2, F3, F4]
      go_wp2_with fail
      refine ⟨⟨⟨rfl, rfl, rfl, rfl, rfl⟩, j + 1, l ++ [x], .slice A' N' c', by show Value.int .i64 _ = _; go_num, by omega, ?_, by rw [List.map_append]; exact ho3, ?_⟩, ?_⟩
      · rw [List.map_append, hk, List.take_add_one, List.getElem?_map, hx]
        simp [kx]
      · rw [List.set_set] at hcm3
        exact hcm3
      · show m.fn.l.length - (intOf (.int .i64 _)).toNat < m.fn.l.length - (intOf (.int .i64 _)).toNat
        simp [intOf]
        omega
  · have hjl : j = m.fn.l.length := by omega
    subst hjl
    rw [List.take_of_length_le (by simp)] at hk
    obtain ⟨s, hs1, hs2, hs3⟩ := hcm.fin (y := 56) (cells := Fn.cells) ho (by omega) (by unfold RB; omega)
    subst hs2
    have HX := Lib.hid (fun a (hf : Fm b0 g0 a) => hexit a wr s hf (by rw [hs1, hk]) hs3)
    clear hexit
    conv => arg 2; whnf
    unfold fr
    simp only [h1, h2, h3, h4]
    go_wp2_with fail
    exact HX.out _ ⟨rfl, rfl, rfl, rfl, rfl⟩
end Go.Proofs.YtmdgemdollfnhaaGreatDoor
