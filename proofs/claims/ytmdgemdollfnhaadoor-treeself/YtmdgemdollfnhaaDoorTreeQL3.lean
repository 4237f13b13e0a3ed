/- A loop of the reference's CopyModule: the globals. -/
import Derived.Test.YtmdgemdollfnhaaDoorTreeQ2
import Derived.Test.YtmdgemdollfnhaaDoorTreeS4
namespace Go.Proofs.YtmdgemdollfnhaaDoor
open Go.RowKit Trx

theorem elem_gl : ElemK Tryd.prog 60 11 136 := ElemK.mk_ (z := .agg #[.int .i64 0, .bool false, .int .i64 0, .int .i64 0, .int .i64 0, .int .u64 0, .int .i64 0, .slice none 0 0, .slice none 0 0, .slice none 0 0, .bool false]) (by kernel_rfl) rfl
theorem Gl.one (t : Gl) : ∀ u ∈ t.cells, u.oneCell' = true := by
  intro u hu
  simp [Gl.cells, In.cells, insC] at hu
  rcases hu with rfl | rfl | rfl | rfl | rfl | rfl | rfl | rfl | rfl | rfl | rfl <;> rfl
/-- a new block of cells, behind a call that changes nothing older. -/
theorem newBlk {w0 w : World} {cs : Array Value} {t : TypeId} (h : Below (w0.alloc (.cells cs t)).heap.size (w0.alloc (.cells cs t)) w) :
    w0.heap.size < w.heap.size ∧ (∀ i, w.cell? ⟨w0.heap.size, i, none⟩ = cs[i]?) ∧ (∀ i, w.frozen? ⟨w0.heap.size, i, none⟩ = false) ∧ Below w0.heap.size w0 w :=
  ⟨by have := h.size; simp at this; omega, fun i => (h.cell (p := ⟨w0.heap.size, i, none⟩) (by simp)).trans (World.cell?_alloc_at _ _ _ _ rfl), fun i => (h.frozen (p := ⟨w0.heap.size, i, none⟩) (by simp)).trans (World.frozen?_alloc_at _ _ _ _ rfl), bel_alloc h⟩

theorem setCells_size (b : Nat) : ∀ (vs : List Value) (o : Nat) (w : World), (w.setCells b o vs).heap.size = w.heap.size
  | [], _, _ => rfl
  | v :: r, o, w => by rw [World.setCells, setCells_size b r]; simp [World.setCell]
theorem setCells_below {B b : Nat} {w0 : World} (hb : B ≤ b) : ∀ (vs : List Value) (o : Nat) (w : World), Below B w0 w → Below B w0 (w.setCells b o vs)
  | [], _, _, h => h
  | v :: r, o, w, h => by rw [World.setCells]; exact setCells_below hb r _ _ (h.setCell (p := ⟨b, o, none⟩) hb v)
theorem setCells_other {b k : Nat} (h : k ≠ b) : ∀ (vs : List Value) (o : Nat) (w : World), (w.setCells b o vs).heap[k]? = w.heap[k]?
  | [], _, _ => rfl
  | v :: r, o, w => by rw [World.setCells, setCells_other h r]; exact Below.heap_setCell _ _ _ _ (by simpa using h)
theorem gen_list {P : Program} {ops : Array Oper} {rest : List Oper} {Q : Exit → Act → World → Prop} {w : World} {v1 v2 v3 v6 v7 v8 : Value} (a : Act) (hs : a.tmps.size = 208) (hd : a.defers = []) (h1 : a.eval (.tmp 1) = v1) (h2 : a.eval (.tmp 2) = v2) (h3 : a.eval (.tmp 3) = v3) (h6 : a.eval (.tmp 6) = v6) (h7 : a.eval (.tmp 7) = v7) (h8 : a.eval (.tmp 108) = v8)
    (H : ∀ a : Act, a.tmps.size = 208 → a.defers = [] → a.eval (.tmp 1) = v1 → a.eval (.tmp 2) = v2 → a.eval (.tmp 3) = v3 → a.eval (.tmp 6) = v6 → a.eval (.tmp 7) = v7 → a.eval (.tmp 108) = v8 → wpList P ops Q rest a w) : wpList P ops Q rest a w := H a hs hd h1 h2 h3 h6 h7 h8

set_option maxHeartbeats 8000000 in
set_option maxRecDepth 100000 in
theorem loop_gl (m : Mo) (w0 : World) (b0 g0 : Nat) (hC : CmC m w0 b0) (vals : List Value) (hv : vals.set 5 (.slice none 0 0) = vals) (Ds : List (World → Nat → Prop)) (Q0 : Exit → Act → World → Prop)
    (hexit : ∀ (a : Act) (wr : World) (s : SL Gl), Fm b0 g0 a → s.l.map kGl = m.gl.l.map kGl →
      (∀ {β : Type} (q' : World → Nat → β → Prop), Cm w0.heap.size g0 w0 wr (.slice none 0 0) (vals.set 5 s.v) q' [] ((fun w B => s.ok Gl.cells Gl.ok 11 136 w B) :: Ds)) → Q0 (.exit 4) a wr)
    (a : Act) (w : World) (hf : Fm b0 g0 a) (h4 : a.eval (.tmp 6) = .int .i64 0) (hcm : Cm w0.heap.size g0 w0 w (.slice none 0 0) vals Gl.ok [] Ds) :
    (Code.loop (cmBody 2)).wp Tryd.prog Q0 a w := by
  have hle : m.gl.l.length * 136 ≤ 140737488351232 := by have := hC.ok.gl.rb; unfold RB at this; exact this
  refine wp_loop (fun a wr => Fm b0 g0 a ∧ ∃ (j : Nat) (l : List Gl) (v : Value), a.eval (.tmp 6) = .int .i64 j ∧ j ≤ m.gl.l.length ∧ l.map kGl = (m.gl.l.map kGl).take j ∧
    OwnK w0.heap.size w0 wr 60 11 v (l.map Gl.cells) ∧ Cm w0.heap.size g0 w0 wr v (vals.set 5 v) Gl.ok l Ds) (fun a _ => m.gl.l.length - (intOf (a.eval (.tmp 6))).toNat)
    ⟨hf, 0, [], .slice none 0 0, h4, by omega, by simp, OwnK.nil_ _ _ _ _ hcm.below (Nat.le_trans hcm.hlo (Nat.le_of_lt hcm.lt)), by rw [hv]; exact hcm⟩ ?_
  clear hf h4 hcm a w
  rintro a wr ⟨hf, j, l, v, h4, hj, hk, ho, hcm⟩
  rw [fr_of a hf.size hf.defers]
  have h1 : (fun i => a.eval (.tmp i)) 1 = .pointer (some ⟨b0, 0, none⟩) := hf.e1
  have h2 : (fun i => a.eval (.tmp i)) 2 = .pointer (some ⟨b0 + 1, 0, none⟩) := hf.e2
  have h3 : (fun i => a.eval (.tmp i)) 3 = .pointer (some ⟨g0, 0, none⟩) := hf.e3
  replace h4 : (fun i => a.eval (.tmp i)) 6 = .int .i64 j := h4
  generalize (fun i => a.eval (.tmp i)) = f at h1 h2 h3 h4 ⊢
  clear hf a
  have hll : l.length = j := by have := congrArg List.length hk; simp at this; omega
  have hbel := hcm.below
  have hb0 : b0 < wr.heap.size := Nat.lt_of_lt_of_le hC.lt hbel.size
  have hc0 : wr.cell? ⟨b0, 5, none⟩ = some (.slice m.gl.A m.gl.l.length m.gl.c) := (hbel.cell (p := ⟨b0, 5, none⟩) hC.lt).trans (hC.box 5 (by omega))
  by_cases hlt : j < m.gl.l.length
  · obtain ⟨b, o, t, hA, hx, hb, hok, hcell⟩ := hC.ok.gl.at_ hlt
    have q0 : wr.cell? ⟨b, o + j * 11, none⟩ = some (.int .i64 t.ty) := (hbel.cell (p := ⟨b, _, none⟩) hb).trans (hcell 0 (by omega))
    have q1 : wr.cell? ⟨b, o + j * 11 + 1, none⟩ = some (.bool t.mu) := (hbel.cell (p := ⟨b, _, none⟩) hb).trans (hcell 1 (by omega))
    have q2 : wr.cell? ⟨b, o + j * 11 + 2, none⟩ = some (.int .i64 t.i.n.op) := (hbel.cell (p := ⟨b, _, none⟩) hb).trans (hcell 2 (by omega))
    have q3 : wr.cell? ⟨b, o + j * 11 + 3, none⟩ = some (.int .i64 t.i.n.a) := (hbel.cell (p := ⟨b, _, none⟩) hb).trans (hcell 3 (by omega))
    have q4 : wr.cell? ⟨b, o + j * 11 + 4, none⟩ = some (.int .i64 t.i.n.b) := (hbel.cell (p := ⟨b, _, none⟩) hb).trans (hcell 4 (by omega))
    have q5 : wr.cell? ⟨b, o + j * 11 + 5, none⟩ = some (.int .u64 t.i.n.v) := (hbel.cell (p := ⟨b, _, none⟩) hb).trans (hcell 5 (by omega))
    have q6 : wr.cell? ⟨b, o + j * 11 + 6, none⟩ = some (.int .i64 t.i.n.t) := (hbel.cell (p := ⟨b, _, none⟩) hb).trans (hcell 6 (by omega))
    have q7 : wr.cell? ⟨b, o + j * 11 + 7, none⟩ = some (.slice t.i.p.AL t.i.n.L.length t.i.p.cL) := (hbel.cell (p := ⟨b, _, none⟩) hb).trans (hcell 7 (by omega))
    have q8 : wr.cell? ⟨b, o + j * 11 + 8, none⟩ = some (.slice t.i.p.Ab (len t.i.n.body) t.i.p.cb) := (hbel.cell (p := ⟨b, _, none⟩) hb).trans (hcell 8 (by omega))
    have q9 : wr.cell? ⟨b, o + j * 11 + 9, none⟩ = some (.slice t.i.p.Ae (len t.i.n.els) t.i.p.ce) := (hbel.cell (p := ⟨b, _, none⟩) hb).trans (hcell 9 (by omega))
    have q10 : wr.cell? ⟨b, o + j * 11 + 10, none⟩ = some (.bool t.i.n.he) := (hbel.cell (p := ⟨b, _, none⟩) hb).trans (hcell 10 (by omega))
    have hb' := Nat.lt_of_lt_of_le hb hbel.size
    have g1 : wr.cell? ⟨g0, 5, none⟩ = some v := (hcm.cells 5 (by omega)).trans (by have := hcm.n; simp at this; simp [this])
    have hok' := hok.keep hbel.size (Below.kp hbel)
    have HSi := Lib.hid (fun w' (h : Below wr.heap.size wr w') => single_any t.i w' ((hok'.keep h.size (Below.kp h)).i))
    have HLi := Lib.hid hok'.i.light
    unfold inA at HSi
    have HOk := Lib.hid hok'
    have HX := Lib.hid hx
    have HK := Lib.hid hk
    have HO := Lib.hid ho
    have HCm := Lib.hid hcm
    have glt := hcm.lt
    have hil' : l.length ≤ j := by omega
    have HIL := Lib.hid hll
    clear hexit hcell hok hok' hx hk ho hcm hC hbel hll
    rw [hA] at hc0
    conv => arg 2; whnf
    unfold fr
    simp only [h1, h2, h3, h4]
    go_wp2_with (go_at_call 27; ((with_reducible refine (HSi.out _ ((Below.refl _ _).alloc (Nat.le_refl _) _)).mono ?_); rintro e w1 ⟨A1, rfl, hr1, hb1⟩; obtain ⟨hl1, n1, f1, hw1⟩ := newBlk hb1; have HR1 := Lib.hid hr1; have HW1 := Lib.hid hw1; have HN1 := Lib.hid n1; have HF1 := Lib.hid f1; clear hb1 hr1 hw1 n1 f1))
    rename_i Q' K3 hK3 K2 hK2 K1 hK1
    refine (Copy_one t.i A1 1 w1 HR1.out HLi.out).mono ?_
    rintro e w2 ⟨c2, g, p, rfl, y1, y2, y3, y4, y5⟩
    refine hK1 _ _ (gen_list (v1 := .pointer (some ⟨b0, 0, none⟩)) (v2 := .pointer (some ⟨b0 + 1, 0, none⟩)) (v3 := .pointer (some ⟨g0, 0, none⟩)) (v6 := .int .i64 j) (v7 := .pointer (some ⟨wr.heap.size, 0, none⟩)) (v8 := .slice (some ⟨g, 0, none⟩) 1 c2) _ rfl rfl rfl rfl rfl rfl rfl rfl ?_)
    intro a hsz hd e1 e2 e3 e6 e7 e8
    have HS := Lib.hid hsz
    clear hsz hK1 K1
    have hw2 : Below wr.heap.size wr w2 := HW1.out.trans (y5.mono HW1.out.size)
    have hl2 : wr.heap.size < w2.heap.size := Nat.lt_of_lt_of_le hl1 y5.size
    have hcx : ∀ i, w2.cell? ⟨wr.heap.size, i, none⟩ = _ := fun i => (y5.cell (p := ⟨wr.heap.size, i, none⟩) hl1).trans (HN1.out i)
    have hfx : ∀ i, w2.frozen? ⟨wr.heap.size, i, none⟩ = false := fun i => (y5.frozen (p := ⟨wr.heap.size, i, none⟩) hl1).trans (HF1.out i)
    have HCX := Lib.hid hcx
    have HFX := Lib.hid hfx
    have HY3 := Lib.hid y3
    clear hcx hfx y3
    -- the copy's first instruction, and its store
    have z8 := ev e8
    refine wpList_plain rfl fun K hK => op_val (.pointer (some ⟨g, 0, none⟩)) (by go_simp) (hK _ _ ?_)
    clear hK K
    refine wpList_load_mid rfl 58 (.tmp 109) rfl g 0 (by show (a.put (some 109) _).eval _ = _; simp [eval_put, size_put, HS.out]) (insC t.i.n p).toList _ (fun k v hv => by
      have hk9 : k < 9 := by rcases Nat.lt_or_ge k 9 with h | h; exact h; rw [List.getElem?_eq_none (by simpa [insC] using h)] at hv; cases hv
      rw [Nat.zero_add, HY3.out k hk9]; simpa using hv) Tryd.underlying58 rfl (by kernel_rfl) ?_
    have z7 : ((a.put (some 109) (.pointer (some ⟨g, 0, none⟩))).put (some 110) (.agg (insC t.i.n p))).tmps[7]?.getD undef = .pointer (some ⟨wr.heap.size, 0, none⟩) := ev (by simp only [eval_put]; exact e7)
    refine wpList_plain rfl fun K hK => op_val (.pointer (some ⟨wr.heap.size, 2, none⟩)) (by
      show (execOp ((a.put (some 109) (.pointer (some ⟨g, 0, none⟩))).put (some 110) (.agg (insC t.i.n p))).eval _).run _ _ = _
      generalize ((a.put (some 109) (.pointer (some ⟨g, 0, none⟩))).put (some 110) (.agg (insC t.i.n p))) = a' at *
      go_simp) (hK _ _ ?_)
    clear hK K z7
    have e1a := e1
    have e2a := e2
    have e3a := e3
    have e6a := e6
    have e7a := e7
    have da := Lib.hid hd
    clear hd
    change wpList _ _ _ _ (((a.put (some 109) (.pointer (some ⟨g, 0, none⟩))).put (some 110) (.agg (insC t.i.n p))).put (some 111) (.pointer (some ⟨wr.heap.size, 2, none⟩))) w2
    generalize ha : ((a.put _ _).put _ _).put _ _ = a3
    have HSa3 : Hid (a3.tmps.size = 208) := Lib.hid (by rw [← ha]; simp only [size_put, HS.out])
    have da3 : Hid (a3.defers = []) := Lib.hid (by rw [← ha]; simp only [defers_put]; exact da.out)
    have e110a3 : a3.eval (.tmp 110) = (.agg (insC t.i.n p)) := by rw [← ha]; simp [eval_put, size_put, HS.out]
    have e111a3 : a3.eval (.tmp 111) = (.pointer (some ⟨wr.heap.size, 2, none⟩)) := by rw [← ha]; simp [eval_put, size_put, HS.out]
    have e1a3 : a3.eval (.tmp 1) = (.pointer (some ⟨b0, 0, none⟩)) := by rw [← ha]; simp only [eval_put]; exact e1a
    have e2a3 : a3.eval (.tmp 2) = (.pointer (some ⟨b0 + 1, 0, none⟩)) := by rw [← ha]; simp only [eval_put]; exact e2a
    have e3a3 : a3.eval (.tmp 3) = (.pointer (some ⟨g0, 0, none⟩)) := by rw [← ha]; simp only [eval_put]; exact e3a
    have e6a3 : a3.eval (.tmp 6) = (.int .i64 j) := by rw [← ha]; simp only [eval_put]; exact e6a
    have e7a3 : a3.eval (.tmp 7) = (.pointer (some ⟨wr.heap.size, 0, none⟩)) := by rw [← ha]; simp only [eval_put]; exact e7a
    clear ha
    have hth : w2.there wr.heap.size 2 (insC t.i.n p).size := fun k hk => ⟨by rw [HCX.out]; simp [insC] at hk ⊢; omega, HFX.out _⟩
    refine wpList_store_mid rfl 58 (.tmp 111) (.tmp 110) rfl wr.heap.size 2 (insC t.i.n p) e111a3 e110a3 hth (by kernel_rfl) (by simp [insC, Value.oneCell']) ?_
    have hW2 : Below wr.heap.size wr (w2.setCells wr.heap.size 2 (insC t.i.n p).toList) := setCells_below (Nat.le_refl _) _ _ _ hw2
    have hS2 := Lib.hid (setCells_size wr.heap.size (insC t.i.n p).toList 2 w2)
    have hH2 : ∀ k, k < w2.heap.size → k ≠ wr.heap.size → (w2.setCells wr.heap.size 2 (insC t.i.n p).toList).heap[k]? = w2.heap[k]? := fun k _ hne => setCells_other hne _ _ _
    have hR2 : (w2.setCells wr.heap.size 2 (insC t.i.n p).toList).rangeAt wr.heap.size 0 (Gl.cells ⟨t.ty, t.mu, ⟨t.i.n, p⟩⟩) := fun k v hv => by
      rw [Nat.zero_add]
      match k with
      | 0 => rw [World.cell?_setCells_out _ _ _ _ _ (fun _ _ => .inl (by show 0 < 2; omega)), HCX.out]; exact hv
      | 1 => rw [World.cell?_setCells_out _ _ _ _ _ (fun _ _ => .inl (by show 1 < 2; omega)), HCX.out]; exact hv
      | k + 2 =>
        have := World.rangeAt_setCells_same w2 wr.heap.size 2 (insC t.i.n p).toList (by simpa using hth) k v hv
        rwa [Nat.add_comm 2 k] at this
    have hF2 : ∀ z, (w2.setCells wr.heap.size 2 (insC t.i.n p).toList).frozen? z = w2.frozen? z := fun z => World.frozen?_setCells _ _ _ _ z
    generalize w2.setCells wr.heap.size 2 (insC t.i.n p).toList = W2 at *
    change K2 a3 W2
    refine hK2 _ _ (wp_region_list ?_)
    clear hK2 K2 hth HCX HFX HY3
    have g2 : W2.cell? ⟨g0, 5, none⟩ = some v := (hW2.cell (p := ⟨g0, 5, none⟩) glt).trans g1
    have z3 := ev e3a3
    refine wpList_plain rfl fun K hK => op_val (.pointer (some ⟨g0, 5, none⟩)) (by go_simp) (hK _ _ ?_)
    clear hK K
    change wpList _ _ _ _ (a3.put (some 112) (.pointer (some ⟨g0, 5, none⟩))) W2
    generalize ha : a3.put _ _ = a4
    have HSa4 : Hid (a4.tmps.size = 208) := Lib.hid (by rw [← ha]; simp only [size_put, HSa3.out])
    have da4 : Hid (a4.defers = []) := Lib.hid (by rw [← ha]; simp only [defers_put]; exact da3.out)
    have e112a4 : a4.eval (.tmp 112) = (.pointer (some ⟨g0, 5, none⟩)) := by rw [← ha]; simp [eval_put, size_put, HSa3.out]
    have e1a4 : a4.eval (.tmp 1) = (.pointer (some ⟨b0, 0, none⟩)) := by rw [← ha]; simp only [eval_put]; exact e1a3
    have e2a4 : a4.eval (.tmp 2) = (.pointer (some ⟨b0 + 1, 0, none⟩)) := by rw [← ha]; simp only [eval_put]; exact e2a3
    have e3a4 : a4.eval (.tmp 3) = (.pointer (some ⟨g0, 0, none⟩)) := by rw [← ha]; simp only [eval_put]; exact e3a3
    have e6a4 : a4.eval (.tmp 6) = (.int .i64 j) := by rw [← ha]; simp only [eval_put]; exact e6a3
    have e7a4 : a4.eval (.tmp 7) = (.pointer (some ⟨wr.heap.size, 0, none⟩)) := by rw [← ha]; simp only [eval_put]; exact e7a3
    clear ha
    have z4 := ev e112a4
    refine wpList_plain rfl fun K hK => op_val v (by go_simp) (hK _ _ ?_)
    clear hK K
    change wpList _ _ _ _ (a4.put (some 113) v) W2
    generalize ha : a4.put _ _ = a5
    have HSa5 : Hid (a5.tmps.size = 208) := Lib.hid (by rw [← ha]; simp only [size_put, HSa4.out])
    have da5 : Hid (a5.defers = []) := Lib.hid (by rw [← ha]; simp only [defers_put]; exact da4.out)
    have e113a5 : a5.eval (.tmp 113) = v := by rw [← ha]; simp [eval_put, size_put, HSa4.out]
    have e1a5 : a5.eval (.tmp 1) = (.pointer (some ⟨b0, 0, none⟩)) := by rw [← ha]; simp only [eval_put]; exact e1a4
    have e2a5 : a5.eval (.tmp 2) = (.pointer (some ⟨b0 + 1, 0, none⟩)) := by rw [← ha]; simp only [eval_put]; exact e2a4
    have e3a5 : a5.eval (.tmp 3) = (.pointer (some ⟨g0, 0, none⟩)) := by rw [← ha]; simp only [eval_put]; exact e3a4
    have e6a5 : a5.eval (.tmp 6) = (.int .i64 j) := by rw [← ha]; simp only [eval_put]; exact e6a4
    have e7a5 : a5.eval (.tmp 7) = (.pointer (some ⟨wr.heap.size, 0, none⟩)) := by rw [← ha]; simp only [eval_put]; exact e7a4
    clear ha
    refine wpList_load_mid rfl 60 (.tmp 7) rfl wr.heap.size 0 e7a5 (Gl.cells ⟨t.ty, t.mu, ⟨t.i.n, p⟩⟩) _ hR2 Tryd.underlying60 rfl (by kernel_rfl) ?_
    change wpList _ _ _ _ (a5.put (some 114) (.agg #[.int .i64 t.ty, .bool t.mu, .int .i64 t.i.n.op, .int .i64 t.i.n.a, .int .i64 t.i.n.b, .int .u64 t.i.n.v, .int .i64 t.i.n.t, .slice p.AL t.i.n.L.length p.cL, .slice p.Ab (len t.i.n.body) p.cb, .slice p.Ae (len t.i.n.els) p.ce, .bool t.i.n.he])) W2
    generalize ha : a5.put _ _ = a6
    have HSa6 : Hid (a6.tmps.size = 208) := Lib.hid (by rw [← ha]; simp only [size_put, HSa5.out])
    have da6 : Hid (a6.defers = []) := Lib.hid (by rw [← ha]; simp only [defers_put]; exact da5.out)
    have e114a6 : a6.eval (.tmp 114) = (.agg #[.int .i64 t.ty, .bool t.mu, .int .i64 t.i.n.op, .int .i64 t.i.n.a, .int .i64 t.i.n.b, .int .u64 t.i.n.v, .int .i64 t.i.n.t, .slice p.AL t.i.n.L.length p.cL, .slice p.Ab (len t.i.n.body) p.cb, .slice p.Ae (len t.i.n.els) p.ce, .bool t.i.n.he]) := by rw [← ha]; simp [eval_put, size_put, HSa5.out]
    have e1a6 : a6.eval (.tmp 1) = (.pointer (some ⟨b0, 0, none⟩)) := by rw [← ha]; simp only [eval_put]; exact e1a5
    have e2a6 : a6.eval (.tmp 2) = (.pointer (some ⟨b0 + 1, 0, none⟩)) := by rw [← ha]; simp only [eval_put]; exact e2a5
    have e3a6 : a6.eval (.tmp 3) = (.pointer (some ⟨g0, 0, none⟩)) := by rw [← ha]; simp only [eval_put]; exact e3a5
    have e6a6 : a6.eval (.tmp 6) = (.int .i64 j) := by rw [← ha]; simp only [eval_put]; exact e6a5
    have e7a6 : a6.eval (.tmp 7) = (.pointer (some ⟨wr.heap.size, 0, none⟩)) := by rw [← ha]; simp only [eval_put]; exact e7a5
    have e113a6 : a6.eval (.tmp 113) = v := by rw [← ha]; simp only [eval_put]; exact e113a5
    clear ha
    have z6 := ev e114a6
    refine wpList_plain rfl fun K hK => ?_
    have HK2 := Lib.hid hK
    clear hK
    go_simp
    refine HK2.out _ _ ?_
    clear HK2 K
    change wpList _ _ _ _ (a6.put (some 115) (.slice (some ⟨W2.heap.size, 0, none⟩) 1 1)) _
    generalize ha : a6.put _ _ = a7
    have HSa7 : Hid (a7.tmps.size = 208) := Lib.hid (by rw [← ha]; simp only [size_put, HSa6.out])
    have da7 : Hid (a7.defers = []) := Lib.hid (by rw [← ha]; simp only [defers_put]; exact da6.out)
    have e115a7 : a7.eval (.tmp 115) = (.slice (some ⟨W2.heap.size, 0, none⟩) 1 1) := by rw [← ha]; simp [eval_put, size_put, HSa6.out]
    have e1a7 : a7.eval (.tmp 1) = (.pointer (some ⟨b0, 0, none⟩)) := by rw [← ha]; simp only [eval_put]; exact e1a6
    have e2a7 : a7.eval (.tmp 2) = (.pointer (some ⟨b0 + 1, 0, none⟩)) := by rw [← ha]; simp only [eval_put]; exact e2a6
    have e3a7 : a7.eval (.tmp 3) = (.pointer (some ⟨g0, 0, none⟩)) := by rw [← ha]; simp only [eval_put]; exact e3a6
    have e6a7 : a7.eval (.tmp 6) = (.int .i64 j) := by rw [← ha]; simp only [eval_put]; exact e6a6
    have e7a7 : a7.eval (.tmp 7) = (.pointer (some ⟨wr.heap.size, 0, none⟩)) := by rw [← ha]; simp only [eval_put]; exact e7a6
    have e113a7 : a7.eval (.tmp 113) = v := by rw [← ha]; simp only [eval_put]; exact e113a6
    clear ha
    have hal : Below W2.heap.size W2 (W2.alloc (.cells #[.int .i64 t.ty, .bool t.mu, .int .i64 t.i.n.op, .int .i64 t.i.n.a, .int .i64 t.i.n.b, .int .u64 t.i.n.v, .int .i64 t.i.n.t, .slice p.AL t.i.n.L.length p.cL, .slice p.Ab (len t.i.n.body) p.cb, .slice p.Ae (len t.i.n.els) p.ce, .bool t.i.n.he] 60)) := (Below.refl _ _).alloc (Nat.le_refl _) _
    have hbw := hW2.trans (hal.mono hW2.size)
    have hFn : Hang (Win wr.heap.size (W2.alloc (.cells #[.int .i64 t.ty, .bool t.mu, .int .i64 t.i.n.op, .int .i64 t.i.n.a, .int .i64 t.i.n.b, .int .u64 t.i.n.v, .int .i64 t.i.n.t, .slice p.AL t.i.n.L.length p.cL, .slice p.Ab (len t.i.n.body) p.cb, .slice p.Ae (len t.i.n.els) p.ce, .bool t.i.n.he] 60))) (W2.alloc (.cells #[.int .i64 t.ty, .bool t.mu, .int .i64 t.i.n.op, .int .i64 t.i.n.a, .int .i64 t.i.n.b, .int .u64 t.i.n.v, .int .i64 t.i.n.t, .slice p.AL t.i.n.L.length p.cL, .slice p.Ab (len t.i.n.body) p.cb, .slice p.Ae (len t.i.n.els) p.ce, .bool t.i.n.he] 60)) (fun w B => Gl.ok w B ⟨t.ty, t.mu, ⟨t.i.n, p⟩⟩) := by
      have hS2 := hS2.out
      have h1 : Hang (Win w1.heap.size w2) w2 (fun w B => Gl.ok w B ⟨t.ty, t.mu, ⟨t.i.n, p⟩⟩) := y4.imp fun _ _ h => ⟨HOk.out.ty, h, HLi.out⟩
      refine h1.move (agr_of_heap fun k hk => ?_) (fun k hk => ⟨by have := hk.1; omega, by have := hk.2; simp; omega⟩) (by simp; omega)
      have h2 := hk.1
      have h3 := hk.2
      rw [Below.heap_alloc _ _ _ (by omega)]
      exact hH2 k h3 (by omega)
    refine wpList_plain rfl fun K hK => op_push (.tmp 113) (.tmp 115) _ rfl 136 Tryd.underlying31 elem_gl (by decide) (Gl.cells ⟨t.ty, t.mu, ⟨t.i.n, p⟩⟩) 1 W2.heap.size e113a7 (HO.out.later hbw) e115a7 rfl (fun k u hk => by rw [World.cell?_alloc_at _ _ _ _ rfl]; simpa [Gl.cells, In.cells, insC] using hk) (Gl.one _) (by simp only [List.length_map]; omega) (by simp only [List.length_map]; unfold maxLen; omega) (fun v' w3 ho2 hk2 hz2 => hK _ _ ?_)
    clear hK K
    obtain ⟨hcm3, ho3⟩ := HCm.out.push HO.out hbw hFn (by simpa using ho2) hk2 hz2 5 (by omega)
    have gB := (hk2 g0 (Nat.lt_of_lt_of_le glt hbw.size) HCm.out.own).1
    have g4 : w3.cell? ⟨g0, 5, none⟩ = some v := (World.cell?_of_block gB).trans ((hbw.cell (p := ⟨g0, 5, none⟩) glt).trans g1)
    have g5 : w3.frozen? ⟨g0, 5, none⟩ = false := (frozen_of_block gB).trans ((hbw.frozen (p := ⟨g0, 5, none⟩) glt).trans (HCm.out.frz 5))
    change wpList _ _ _ _ (a7.put (some 116) v') w3
    generalize ha : a7.put _ _ = a8
    have HSa8 : Hid (a8.tmps.size = 208) := Lib.hid (by rw [← ha]; simp only [size_put, HSa7.out])
    have da8 : Hid (a8.defers = []) := Lib.hid (by rw [← ha]; simp only [defers_put]; exact da7.out)
    have e116a8 : a8.eval (.tmp 116) = v' := by rw [← ha]; simp [eval_put, size_put, HSa7.out]
    have e1a8 : a8.eval (.tmp 1) = (.pointer (some ⟨b0, 0, none⟩)) := by rw [← ha]; simp only [eval_put]; exact e1a7
    have e2a8 : a8.eval (.tmp 2) = (.pointer (some ⟨b0 + 1, 0, none⟩)) := by rw [← ha]; simp only [eval_put]; exact e2a7
    have e3a8 : a8.eval (.tmp 3) = (.pointer (some ⟨g0, 0, none⟩)) := by rw [← ha]; simp only [eval_put]; exact e3a7
    have e6a8 : a8.eval (.tmp 6) = (.int .i64 j) := by rw [← ha]; simp only [eval_put]; exact e6a7
    have e7a8 : a8.eval (.tmp 7) = (.pointer (some ⟨wr.heap.size, 0, none⟩)) := by rw [← ha]; simp only [eval_put]; exact e7a7
    clear ha
    have z8 := ev e3a8
    refine wpList_plain rfl fun K hK => op_val (.pointer (some ⟨g0, 5, none⟩)) (by go_simp) (hK _ _ ?_)
    clear hK K
    change wpList _ _ _ _ (a8.put (some 117) (.pointer (some ⟨g0, 5, none⟩))) w3
    generalize ha : a8.put _ _ = a9
    have HSa9 : Hid (a9.tmps.size = 208) := Lib.hid (by rw [← ha]; simp only [size_put, HSa8.out])
    have da9 : Hid (a9.defers = []) := Lib.hid (by rw [← ha]; simp only [defers_put]; exact da8.out)
    have e117a9 : a9.eval (.tmp 117) = (.pointer (some ⟨g0, 5, none⟩)) := by rw [← ha]; simp [eval_put, size_put, HSa8.out]
    have e1a9 : a9.eval (.tmp 1) = (.pointer (some ⟨b0, 0, none⟩)) := by rw [← ha]; simp only [eval_put]; exact e1a8
    have e2a9 : a9.eval (.tmp 2) = (.pointer (some ⟨b0 + 1, 0, none⟩)) := by rw [← ha]; simp only [eval_put]; exact e2a8
    have e3a9 : a9.eval (.tmp 3) = (.pointer (some ⟨g0, 0, none⟩)) := by rw [← ha]; simp only [eval_put]; exact e3a8
    have e6a9 : a9.eval (.tmp 6) = (.int .i64 j) := by rw [← ha]; simp only [eval_put]; exact e6a8
    have e7a9 : a9.eval (.tmp 7) = (.pointer (some ⟨wr.heap.size, 0, none⟩)) := by rw [← ha]; simp only [eval_put]; exact e7a8
    have e116a9 : a9.eval (.tmp 116) = v' := by rw [← ha]; simp only [eval_put]; exact e116a8
    clear ha
    have z116 := ev e116a9
    have z117 := ev e117a9
    obtain ⟨A', c', N', hv'⟩ : ∃ A' c' N', v' = .slice A' N' c' := by obtain ⟨A', c', hv', -⟩ := ho3.form; exact ⟨A', c', _, hv'⟩
    subst hv'
    refine wpList_plain rfl fun K hK => ?_
    have HK2 := Lib.hid hK
    clear hK
    go_simp
    refine HK2.out _ _ ?_
    clear HK2 K
    change K3 a9 _
    have HH3 := Lib.hid hK3
    clear hK3
    rw [fr_of a9 HSa9.out da9.out]
    have F1 : (fun i => a9.eval (.tmp i)) 1 = .pointer (some ⟨b0, 0, none⟩) := e1a9
    have F2 : (fun i => a9.eval (.tmp i)) 2 = .pointer (some ⟨b0 + 1, 0, none⟩) := e2a9
    have F3 : (fun i => a9.eval (.tmp i)) 3 = .pointer (some ⟨g0, 0, none⟩) := e3a9
    have F4 : (fun i => a9.eval (.tmp i)) 6 = .int .i64 j := e6a9
    generalize (fun i => a9.eval (.tmp i)) = f' at F1 F2 F3 F4 ⊢
    refine HH3.out _ _ ?_
    clear HH3
    unfold fr
    simp only [F1, F2, F3, F4]
    go_wp2_with fail
    refine ⟨⟨⟨rfl, rfl, rfl, rfl, rfl⟩, j + 1, l ++ [⟨t.ty, t.mu, ⟨t.i.n, p⟩⟩], .slice A' N' c', by show Value.int .i64 _ = _; go_num, by omega, ?_, by rw [List.map_append]; exact ho3, ?_⟩, ?_⟩
    · rw [List.map_append, HK.out, List.take_add_one, List.getElem?_map, HX.out]
      simp [kGl]
    · rw [List.set_set] at hcm3
      exact hcm3
    · show m.gl.l.length - (intOf (.int .i64 _)).toNat < m.gl.l.length - (intOf (.int .i64 _)).toNat
      simp [intOf]
      omega
  · have hjl : j = m.gl.l.length := by omega
    subst hjl
    rw [List.take_of_length_le (by simp)] at hk
    obtain ⟨s, hs1, hs2, hs3⟩ := hcm.fin (y := 136) (cells := Gl.cells) ho (by omega) (by unfold RB; omega)
    subst hs2
    have HX := Lib.hid (fun a (hf : Fm b0 g0 a) => hexit a wr s hf (by rw [hs1, hk]) hs3)
    clear hexit
    conv => arg 2; whnf
    unfold fr
    simp only [h1, h2, h3, h4]
    go_wp2_with fail
    exact HX.out _ ⟨rfl, rfl, rfl, rfl, rfl⟩
end Go.Proofs.YtmdgemdollfnhaaDoor
