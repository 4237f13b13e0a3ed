/- A loop of the reference's CopyModule: the element segments. -/
import Derived.Test.YtmdgemdollfnhaaGreatDoorTreeQ
import Derived.Test.YtmdgemdollfnhaaGreatDoorTreeS4
namespace Go.Proofs.YtmdgemdollfnhaaGreatDoor
open Go.RowKit Trx

/-- what each operation of the region leaves in its slot. -/
def V4 (m : Mo) (b0 g0 j : Nat) (t : El) (b o lo1 : Nat) (vo : Value) : Nat → Value → World → Prop
  | 0, v, _ => v = .pointer (some ⟨g0, 8, none⟩)
  | 1, v, _ => v = vo
  | 2, v, _ => v = .pointer (some ⟨b0, 8, none⟩)
  | 3, v, _ => v = .slice (some ⟨b, o, none⟩) m.el.l.length m.el.c
  | 4, v, _ => v = .int .i64 j
  | 5, v, _ => v = .pointer (some ⟨b, o + j * 10, none⟩)
  | 6, v, _ => v = .pointer (some ⟨b, o + j * 10, none⟩)
  | 7, v, _ => v = inA t.i
  | 8, v, w => ∃ A, v = .slice A 1 1 ∧ RdS w w.heap.size A (ofN [t.i.n])
  | 9, v, w => ∃ (c g : Nat) (p : Pl), v = .slice (some ⟨g, 0, none⟩) 1 c ∧ g < w.heap.size ∧ (∀ k, k < 9 → w.cell? ⟨g, k, none⟩ = (insC t.i.n p)[k]?) ∧ Hang (Win lo1 w) w (fun w B => NdOk w B t.i.n p)
  | 10, v, w => ∃ (g : Nat) (p : Pl), v = .pointer (some ⟨g, 0, none⟩) ∧ g < w.heap.size ∧ (∀ k, k < 9 → w.cell? ⟨g, k, none⟩ = (insC t.i.n p)[k]?) ∧ Hang (Win lo1 w) w (fun w B => NdOk w B t.i.n p)
  | 11, v, w => ∃ p : Pl, v = .agg (insC t.i.n p) ∧ Hang (Win lo1 w) w (fun w B => NdOk w B t.i.n p)
  | 12, v, _ => ∃ p, v = .slice (some p) 0 0
  | 13, v, _ => v = .pointer (some ⟨b0, 8, none⟩)
  | 14, v, _ => v = .slice (some ⟨b, o, none⟩) m.el.l.length m.el.c
  | 15, v, _ => v = .int .i64 j
  | 16, v, _ => v = .pointer (some ⟨b, o + j * 10, none⟩)
  | 17, v, _ => v = .pointer (some ⟨b, o + j * 10 + 9, none⟩)
  | 18, v, _ => v = t.fs.v
  | 19, v, w => ∃ l : IL, v = l.v ∧ l.zs = t.fs.zs ∧ Hang (Win lo1 w) w (fun w B => l.ok w B)
  | 20, v, w => ∃ x : El, v = .agg #[.int .i64 x.i.n.op, .int .i64 x.i.n.a, .int .i64 x.i.n.b, .int .u64 x.i.n.v, .int .i64 x.i.n.t, .slice x.i.p.AL x.i.n.L.length x.i.p.cL, .slice x.i.p.Ab (len x.i.n.body) x.i.p.cb, .slice x.i.p.Ae (len x.i.n.els) x.i.p.ce, .bool x.i.n.he, x.fs.v] ∧ kEl x = kEl t ∧ Hang (Win lo1 w) w (fun w B => x.ok w B)
  | 21, v, w => ∃ (x : El) (n : Nat), v = .slice (some ⟨n, 0, none⟩) 1 1 ∧ kEl x = kEl t ∧ Hang (Win lo1 w) w (fun w B => x.ok w B) ∧ n < w.heap.size ∧ ∀ k u, x.cells[k]? = some u → w.cell? ⟨n, k, none⟩ = some u
  | _, _, _ => True
theorem V4.mono {m : Mo} {b0 g0 j : Nat} {t : El} {b o lo1 : Nat} {vo : Value} (i : Nat) (v : Value) (w w' : World) (h : V4 m b0 g0 j t b o lo1 vo i v w) (hb : Below w.heap.size w w') : V4 m b0 g0 j t b o lo1 vo i v w' := by
  unfold V4 at *
  split at h
  all_goals try exact h
  · obtain ⟨A, h1, h2⟩ := h; exact ⟨A, h1, h2.later hb⟩
  · obtain ⟨c, g, p, h1, h2, h3, h4⟩ := h; exact ⟨c, g, p, h1, Nat.lt_of_lt_of_le h2 hb.size, fun k hk => (hb.cell (p := ⟨g, k, none⟩) h2).trans (h3 k hk), h4.later hb⟩
  · obtain ⟨g, p, h1, h2, h3, h4⟩ := h; exact ⟨g, p, h1, Nat.lt_of_lt_of_le h2 hb.size, fun k hk => (hb.cell (p := ⟨g, k, none⟩) h2).trans (h3 k hk), h4.later hb⟩
  · obtain ⟨p, h1, h2⟩ := h; exact ⟨p, h1, h2.later hb⟩
  · obtain ⟨l, h1, h2, h3⟩ := h; exact ⟨l, h1, h2, h3.later hb⟩
  · obtain ⟨l, h1, h2, h3⟩ := h; exact ⟨l, h1, h2, h3.later hb⟩
  · obtain ⟨l, n, h1, h2, h3, h4, h5⟩ := h; exact ⟨l, n, h1, h2, h3.later hb, Nat.lt_of_lt_of_le h4 hb.size, fun k u hk => (hb.cell (p := ⟨n, k, none⟩) h4).trans (h5 k u hk)⟩
theorem elem_el : ElemK Tryz.prog 58 10 144 := ElemK.mk_ (z := .agg #[.int .i64 0, .int .i64 0, .int .i64 0, .int .u64 0, .int .i64 0, .slice none 0 0, .slice none 0 0, .slice none 0 0, .bool false, .slice none 0 0]) (by kernel_rfl) rfl
theorem El.one (t : El) : ∀ u ∈ t.cells, u.oneCell' = true := by
  intro u hu
  simp [El.cells, In.cells, insC] at hu
  rcases hu with rfl | rfl | rfl | rfl | rfl | rfl | rfl | rfl | rfl | rfl <;> rfl

set_option maxHeartbeats 8000000 in
set_option maxRecDepth 100000 in
theorem loop_el (m : Mo) (w0 : World) (b0 g0 : Nat) (hC : CmC m w0 b0) (vals : List Value) (hv : vals.set 8 (.slice none 0 0) = vals) (Ds : List (World → Nat → Prop)) (Q0 : Exit → Act → World → Prop)
    (hexit : ∀ (a : Act) (wr : World) (s : SL El), Fm b0 g0 a → s.l.map kEl = m.el.l.map kEl →
      (∀ {β : Type} (q' : World → Nat → β → Prop), Cm w0.heap.size g0 w0 wr (.slice none 0 0) (vals.set 8 s.v) q' [] ((fun w B => s.ok El.cells El.ok 10 144 w B) :: Ds)) → Q0 (.exit 6) a wr)
    (a : Act) (w : World) (hf : Fm b0 g0 a) (h4 : a.eval (.tmp 8) = .int .i64 0) (hcm : Cm w0.heap.size g0 w0 w (.slice none 0 0) vals El.ok [] Ds) :
    (Code.loop (cmBody 3)).wp Tryz.prog Q0 a w := by
  have hle : m.el.l.length * 144 ≤ 140737488351232 := by have := hC.ok.el.rb; unfold RB at this; exact this
  refine wp_loop (fun a wr => Fm b0 g0 a ∧ ∃ (j : Nat) (l : List El) (v : Value), a.eval (.tmp 8) = .int .i64 j ∧ j ≤ m.el.l.length ∧ l.map kEl = (m.el.l.map kEl).take j ∧
    OwnK w0.heap.size w0 wr 58 10 v (l.map El.cells) ∧ Cm w0.heap.size g0 w0 wr v (vals.set 8 v) El.ok l Ds) (fun a _ => m.el.l.length - (intOf (a.eval (.tmp 8))).toNat)
    ⟨hf, 0, [], .slice none 0 0, h4, by omega, by simp, OwnK.nil_ _ _ _ _ hcm.below (Nat.le_trans hcm.hlo (Nat.le_of_lt hcm.lt)), by rw [hv]; exact hcm⟩ ?_
  clear hf h4 hcm a w
  rintro a wr ⟨hf, j, l, v, h4, hj, hk, ho, hcm⟩
  rw [fr_of a hf.size hf.defers]
  have h1 : (fun i => a.eval (.tmp i)) 1 = .pointer (some ⟨b0, 0, none⟩) := hf.e1
  have h2 : (fun i => a.eval (.tmp i)) 2 = .pointer (some ⟨b0 + 1, 0, none⟩) := hf.e2
  have h3 : (fun i => a.eval (.tmp i)) 3 = .pointer (some ⟨g0, 0, none⟩) := hf.e3
  replace h4 : (fun i => a.eval (.tmp i)) 8 = .int .i64 j := h4
  generalize (fun i => a.eval (.tmp i)) = f at h1 h2 h3 h4 ⊢
  clear hf a
  have hll : l.length = j := by have := congrArg List.length hk; simp at this; omega
  have hbel := hcm.below
  have hb0 : b0 < wr.heap.size := Nat.lt_of_lt_of_le hC.lt hbel.size
  have hc0 : wr.cell? ⟨b0, 8, none⟩ = some (.slice m.el.A m.el.l.length m.el.c) := (hbel.cell (p := ⟨b0, 8, none⟩) hC.lt).trans (hC.box 8 (by omega))
  by_cases hlt : j < m.el.l.length
  · obtain ⟨b, o, t, hA, hx, hb, hok, hcell⟩ := hC.ok.el.at_ hlt
    have q0 : wr.cell? ⟨b, o + j * 10, none⟩ = some (.int .i64 t.i.n.op) := (hbel.cell (p := ⟨b, _, none⟩) hb).trans (hcell 0 (by omega))
    have q1 : wr.cell? ⟨b, o + j * 10 + 1, none⟩ = some (.int .i64 t.i.n.a) := (hbel.cell (p := ⟨b, _, none⟩) hb).trans (hcell 1 (by omega))
    have q2 : wr.cell? ⟨b, o + j * 10 + 2, none⟩ = some (.int .i64 t.i.n.b) := (hbel.cell (p := ⟨b, _, none⟩) hb).trans (hcell 2 (by omega))
    have q3 : wr.cell? ⟨b, o + j * 10 + 3, none⟩ = some (.int .u64 t.i.n.v) := (hbel.cell (p := ⟨b, _, none⟩) hb).trans (hcell 3 (by omega))
    have q4 : wr.cell? ⟨b, o + j * 10 + 4, none⟩ = some (.int .i64 t.i.n.t) := (hbel.cell (p := ⟨b, _, none⟩) hb).trans (hcell 4 (by omega))
    have q5 : wr.cell? ⟨b, o + j * 10 + 5, none⟩ = some (.slice t.i.p.AL t.i.n.L.length t.i.p.cL) := (hbel.cell (p := ⟨b, _, none⟩) hb).trans (hcell 5 (by omega))
    have q6 : wr.cell? ⟨b, o + j * 10 + 6, none⟩ = some (.slice t.i.p.Ab (len t.i.n.body) t.i.p.cb) := (hbel.cell (p := ⟨b, _, none⟩) hb).trans (hcell 6 (by omega))
    have q7 : wr.cell? ⟨b, o + j * 10 + 7, none⟩ = some (.slice t.i.p.Ae (len t.i.n.els) t.i.p.ce) := (hbel.cell (p := ⟨b, _, none⟩) hb).trans (hcell 7 (by omega))
    have q8 : wr.cell? ⟨b, o + j * 10 + 8, none⟩ = some (.bool t.i.n.he) := (hbel.cell (p := ⟨b, _, none⟩) hb).trans (hcell 8 (by omega))
    have q9 : wr.cell? ⟨b, o + j * 10 + 9, none⟩ = some (t.fs.v) := (hbel.cell (p := ⟨b, _, none⟩) hb).trans (hcell 9 (by omega))
    have hb' := Nat.lt_of_lt_of_le hb hbel.size
    have g1 : wr.cell? ⟨g0, 8, none⟩ = some v := (hcm.cells 8 (by omega)).trans (by have := hcm.n; simp at this; simp [this])
    have hok' := hok.keep hbel.size (Below.kp hbel)
    conv => arg 2; whnf
    unfold fr
    simp only [h1, h2, h3, h4]
    go_wp2_with fail
    refine gen_act 8 208 (v1 := .pointer (some ⟨b0, 0, none⟩)) (v2 := .pointer (some ⟨b0 + 1, 0, none⟩)) (v3 := .pointer (some ⟨g0, 0, none⟩)) (vk := .int .i64 j) _ rfl rfl rfl rfl rfl rfl ?_
    intro a hsz hd e1 e2 e3 e4
    refine region_vals 22 25 (V4 m b0 g0 j t b o wr.heap.size v) (fun i => i + 125) a wr (by kernel_rfl) rfl (by omega) (by kernel_rfl) (by kernel_rfl) (by kernel_rfl) (by rw [hsz]; kernel_rfl) V4.mono ?_ ?_
    · intro i hi a1 w1 hB hV
      have hbw : Below wr.heap.size wr w1 := ((Below.refl wr.heap.size wr).drew).trans hB.below
      have z1 := ev ((hB.same 1 (fun i _ => by omega)).trans e1)
      have z3 := ev ((hB.same 3 (fun i _ => by omega)).trans e3)
      have z4 := ev ((hB.same 8 (fun i _ => by omega)).trans e4)
      have c0 := (hbw.cell (p := ⟨b0, 8, none⟩) hb0).trans hc0
      have c3 := (hbw.cell (p := ⟨g0, 8, none⟩) hcm.lt).trans g1
      have p0 := (hbw.cell (p := ⟨b, _, none⟩) hb').trans q0
      have p1 := (hbw.cell (p := ⟨b, _, none⟩) hb').trans q1
      have p2 := (hbw.cell (p := ⟨b, _, none⟩) hb').trans q2
      have p3 := (hbw.cell (p := ⟨b, _, none⟩) hb').trans q3
      have p4 := (hbw.cell (p := ⟨b, _, none⟩) hb').trans q4
      have p5 := (hbw.cell (p := ⟨b, _, none⟩) hb').trans q5
      have p6 := (hbw.cell (p := ⟨b, _, none⟩) hb').trans q6
      have p7 := (hbw.cell (p := ⟨b, _, none⟩) hb').trans q7
      have p8 := (hbw.cell (p := ⟨b, _, none⟩) hb').trans q8
      have p9 := (hbw.cell (p := ⟨b, _, none⟩) hb').trans q9
      have hok1 := hok'.keep hbw.size (Below.kp hbw)
      match i, hi with
      | 0, _ =>
        exact op_plain rfl rfl (op_val (.pointer (some ⟨g0, 8, none⟩)) (by go_simp) ⟨_, rfl, Below.refl _ _, rfl⟩)
      | 1, _ =>
        have k0 := ev (show a1.eval (.tmp 125) = _ from hV ⟨0, .data⟩ (.head _) rfl)
        exact op_plain rfl rfl (op_val (v) (by go_simp) ⟨_, rfl, Below.refl _ _, rfl⟩)
      | 2, _ =>
        exact op_plain rfl rfl (op_val (.pointer (some ⟨b0, 8, none⟩)) (by go_simp) ⟨_, rfl, Below.refl _ _, rfl⟩)
      | 3, _ =>
        have k0 := ev (show a1.eval (.tmp 127) = _ from hV ⟨2, .data⟩ (.head _) rfl)
        exact op_plain rfl rfl (op_val (.slice (some ⟨b, o, none⟩) m.el.l.length m.el.c) (by go_simp) ⟨_, rfl, Below.refl _ _, rfl⟩)
      | 4, _ =>
        exact op_plain rfl rfl (op_val (.int .i64 j) (by go_simp) ⟨_, rfl, Below.refl _ _, rfl⟩)
      | 5, _ =>
        have k0 := ev (show a1.eval (.tmp 128) = _ from hV ⟨3, .data⟩ (.head _) rfl)
        have k1 := ev (show a1.eval (.tmp 129) = _ from hV ⟨4, .data⟩ (.tail _ (.head _)) rfl)
        exact op_plain rfl rfl (op_val (.pointer (some ⟨b, o + j * 10, none⟩)) (by go_simp) ⟨_, rfl, Below.refl _ _, rfl⟩)
      | 6, _ =>
        have k0 := ev (show a1.eval (.tmp 130) = _ from hV ⟨5, .data⟩ (.head _) rfl)
        exact op_plain rfl rfl (op_val (.pointer (some ⟨b, o + j * 10, none⟩)) (by go_simp) ⟨_, rfl, Below.refl _ _, rfl⟩)
      | 7, _ =>
        have k0 := ev (show a1.eval (.tmp 131) = _ from hV ⟨6, .data⟩ (.head _) rfl)
        exact op_plain rfl rfl (op_val (.agg #[.int .i64 t.i.n.op, .int .i64 t.i.n.a, .int .i64 t.i.n.b, .int .u64 t.i.n.v, .int .i64 t.i.n.t, .slice t.i.p.AL t.i.n.L.length t.i.p.cL, .slice t.i.p.Ab (len t.i.n.body) t.i.p.cb, .slice t.i.p.Ae (len t.i.n.els) t.i.p.ce, .bool t.i.n.he]) (by go_simp) ⟨_, rfl, Below.refl _ _, rfl⟩)
      | 8, _ =>
        have k0 := ev (show a1.eval (.tmp 132) = _ from hV ⟨7, .data⟩ (.head _) rfl)
        have HCp := Lib.hid (single_any t.i w1 hok1.i)
        refine op_plain rfl rfl ?_
        go_simp
        refine HCp.out.mono ?_
        rintro e w' ⟨A', rfl, y1, y2⟩
        exact ⟨_, rfl, y2, A', rfl, y1⟩
      | 9, _ =>
        obtain ⟨A, k0, k1⟩ : ∃ A, a1.eval (.tmp 133) = .slice A 1 1 ∧ RdS w1 w1.heap.size A (ofN [t.i.n]) := hV ⟨8, .data⟩ (.head _) rfl
        have k0 := ev k0
        have HCp := Lib.hid (Copy_one t.i A 1 w1 k1 hok1.i.light)
        refine op_plain rfl rfl ?_
        go_simp
        refine HCp.out.mono ?_
        rintro e w' ⟨c', g, p, rfl, -, y1, y2, y3, y4⟩
        exact ⟨_, rfl, y4, c', g, p, rfl, y1, y2, y3.lower hbw.size⟩
      | 10, _ =>
        obtain ⟨c', g, p, k0, k1, k2, k3⟩ : ∃ (c g : Nat) (p : Pl), a1.eval (.tmp 134) = .slice (some ⟨g, 0, none⟩) 1 c ∧ g < w1.heap.size ∧ (∀ k, k < 9 → w1.cell? ⟨g, k, none⟩ = (insC t.i.n p)[k]?) ∧ Hang (Win wr.heap.size w1) w1 (fun w B => NdOk w B t.i.n p) := hV ⟨9, .data⟩ (.head _) rfl
        have k0 := ev k0
        exact op_plain rfl rfl (op_val (.pointer (some ⟨g, 0, none⟩)) (by go_simp) ⟨_, rfl, Below.refl _ _, g, p, rfl, k1, k2, k3⟩)
      | 11, _ =>
        obtain ⟨g, p, k0, k1, k2, k3⟩ : ∃ (g : Nat) (p : Pl), a1.eval (.tmp 135) = .pointer (some ⟨g, 0, none⟩) ∧ g < w1.heap.size ∧ (∀ k, k < 9 → w1.cell? ⟨g, k, none⟩ = (insC t.i.n p)[k]?) ∧ Hang (Win wr.heap.size w1) w1 (fun w B => NdOk w B t.i.n p) := hV ⟨10, .data⟩ (.head _) rfl
        have k0 := ev k0
        have r0 : w1.cell? ⟨g, 0, none⟩ = some (.int .i64 t.i.n.op) := k2 0 (by omega)
        have r1 : w1.cell? ⟨g, 1, none⟩ = some (.int .i64 t.i.n.a) := k2 1 (by omega)
        have r2 : w1.cell? ⟨g, 2, none⟩ = some (.int .i64 t.i.n.b) := k2 2 (by omega)
        have r3 : w1.cell? ⟨g, 3, none⟩ = some (.int .u64 t.i.n.v) := k2 3 (by omega)
        have r4 : w1.cell? ⟨g, 4, none⟩ = some (.int .i64 t.i.n.t) := k2 4 (by omega)
        have r5 : w1.cell? ⟨g, 5, none⟩ = some (.slice p.AL t.i.n.L.length p.cL) := k2 5 (by omega)
        have r6 : w1.cell? ⟨g, 6, none⟩ = some (.slice p.Ab (len t.i.n.body) p.cb) := k2 6 (by omega)
        have r7 : w1.cell? ⟨g, 7, none⟩ = some (.slice p.Ae (len t.i.n.els) p.ce) := k2 7 (by omega)
        have r8 : w1.cell? ⟨g, 8, none⟩ = some (.bool t.i.n.he) := k2 8 (by omega)
        clear k2
        exact op_plain rfl rfl (op_val (.agg #[.int .i64 t.i.n.op, .int .i64 t.i.n.a, .int .i64 t.i.n.b, .int .u64 t.i.n.v, .int .i64 t.i.n.t, .slice p.AL t.i.n.L.length p.cL, .slice p.Ab (len t.i.n.body) p.cb, .slice p.Ae (len t.i.n.els) p.ce, .bool t.i.n.he]) (by go_simp) ⟨_, rfl, Below.refl _ _, p, rfl, k3⟩)
      | 12, _ =>
        exact op_plain rfl rfl (by go_simp; exact ⟨_, rfl, (Below.refl _ _).alloc (Nat.le_refl _) _, ⟨_, rfl⟩⟩)
      | 13, _ =>
        exact op_plain rfl rfl (op_val (.pointer (some ⟨b0, 8, none⟩)) (by go_simp) ⟨_, rfl, Below.refl _ _, rfl⟩)
      | 14, _ =>
        have k0 := ev (show a1.eval (.tmp 138) = _ from hV ⟨13, .data⟩ (.head _) rfl)
        exact op_plain rfl rfl (op_val (.slice (some ⟨b, o, none⟩) m.el.l.length m.el.c) (by go_simp) ⟨_, rfl, Below.refl _ _, rfl⟩)
      | 15, _ =>
        exact op_plain rfl rfl (op_val (.int .i64 j) (by go_simp) ⟨_, rfl, Below.refl _ _, rfl⟩)
      | 16, _ =>
        have k0 := ev (show a1.eval (.tmp 139) = _ from hV ⟨14, .data⟩ (.head _) rfl)
        have k1 := ev (show a1.eval (.tmp 140) = _ from hV ⟨15, .data⟩ (.tail _ (.head _)) rfl)
        exact op_plain rfl rfl (op_val (.pointer (some ⟨b, o + j * 10, none⟩)) (by go_simp) ⟨_, rfl, Below.refl _ _, rfl⟩)
      | 17, _ =>
        have k0 := ev (show a1.eval (.tmp 141) = _ from hV ⟨16, .data⟩ (.head _) rfl)
        exact op_plain rfl rfl (op_val (.pointer (some ⟨b, o + j * 10 + 9, none⟩)) (by go_simp) ⟨_, rfl, Below.refl _ _, rfl⟩)
      | 18, _ =>
        have k0 := ev (show a1.eval (.tmp 142) = _ from hV ⟨17, .data⟩ (.head _) rfl)
        exact op_plain rfl rfl (op_val (t.fs.v) (by go_simp) ⟨_, rfl, Below.refl _ _, rfl⟩)
      | 19, _ =>
        have hi1 := hok1.fs
        obtain ⟨p, k0⟩ : ∃ p, a1.eval (.tmp 137) = .slice (some p) 0 0 := hV ⟨12, .data⟩ (.head _) rfl
        have k1 : a1.eval (.tmp 143) = t.fs.v := hV ⟨18, .data⟩ (.tail _ (.head _)) rfl
        refine op_plain rfl rfl (op_cat0 (.tmp 137) (.tmp 143) _ rfl 8 Tryz.underlying36 elem_int (by decide) p k0 k1 hi1.sl.ones (ones_len _) (by simp) (n64_one _) (by have := hi1.rb; unfold RB at this; omega) (by have := hi1.le; have := hi1.c; omega) fun A' c' w' y1 y2 y3 y4 => ?_)
        exact ⟨_, rfl, y3, ⟨t.fs.zs, A', c'⟩, rfl, rfl, (hang_il y4 y1 y2 hi1.rb hi1.inI).lower hbw.size⟩
      | 20, _ =>
        obtain ⟨l0, k0, k0''⟩ : ∃ p : Pl, a1.eval (.tmp 136) = .agg (insC t.i.n p) ∧ Hang (Win wr.heap.size w1) w1 (fun w B => NdOk w B t.i.n p) := hV ⟨11, .data⟩ (.head _) rfl
        have k0 := ev k0
        unfold insC at k0
        obtain ⟨l1, k1, k1', k1''⟩ : ∃ l : IL, a1.eval (.tmp 144) = l.v ∧ l.zs = t.fs.zs ∧ Hang (Win wr.heap.size w1) w1 (fun w B => l.ok w B) := hV ⟨19, .data⟩ (.tail _ (.head _)) rfl
        have k1 := ev k1
        exact op_plain rfl rfl (op_val (.agg #[.int .i64 t.i.n.op, .int .i64 t.i.n.a, .int .i64 t.i.n.b, .int .u64 t.i.n.v, .int .i64 t.i.n.t, .slice l0.AL t.i.n.L.length l0.cL, .slice l0.Ab (len t.i.n.body) l0.cb, .slice l0.Ae (len t.i.n.els) l0.ce, .bool t.i.n.he, l1.v]) (by go_simp) ⟨_, rfl, Below.refl _ _, ⟨⟨t.i.n, l0⟩, l1⟩, rfl, by simp [kEl, k1'], (k0''.and k1'').imp fun _ _ h => ⟨⟨h.1, hok'.i.light⟩, h.2⟩⟩)
      | 21, _ =>
        obtain ⟨x, k0, k0', k0''⟩ : ∃ x : El, a1.eval (.tmp 145) = .agg #[.int .i64 x.i.n.op, .int .i64 x.i.n.a, .int .i64 x.i.n.b, .int .u64 x.i.n.v, .int .i64 x.i.n.t, .slice x.i.p.AL x.i.n.L.length x.i.p.cL, .slice x.i.p.Ab (len x.i.n.body) x.i.p.cb, .slice x.i.p.Ae (len x.i.n.els) x.i.p.ce, .bool x.i.n.he, x.fs.v] ∧ kEl x = kEl t ∧ Hang (Win wr.heap.size w1) w1 (fun w B => x.ok w B) := hV ⟨20, .data⟩ (.head _) rfl
        have k0 := ev k0
        exact op_plain rfl rfl (by go_simp; exact ⟨_, rfl, (Below.refl _ _).alloc (Nat.le_refl _) _, x, w1.heap.size, rfl, k0', k0''.later ((Below.refl _ _).alloc (Nat.le_refl _) _), by simp, fun k u hk => by rw [World.cell?_alloc_at _ _ _ _ rfl]; simpa [El.cells, In.cells, insC] using hk⟩)
      | n + 22, h => exact absurd h (by omega)
    · intro a1 w1 hB hV
      have hbw : Below wr.heap.size wr w1 := ((Below.refl wr.heap.size wr).drew).trans hB.below
      have x1 := (hB.same 1 (fun i _ => by omega)).trans e1
      have x2 := (hB.same 2 (fun i _ => by omega)).trans e2
      have x3 := (hB.same 3 (fun i _ => by omega)).trans e3
      have x4 := (hB.same 8 (fun i _ => by omega)).trans e4
      have k1 : a1.eval (.tmp 126) = v := hV 1 (by omega)
      obtain ⟨x, n, k2, kx, kh, kn, kc⟩ : ∃ (x : El) (n : Nat), a1.eval (.tmp 146) = .slice (some ⟨n, 0, none⟩) 1 1 ∧ kEl x = kEl t ∧ Hang (Win wr.heap.size w1) w1 (fun w B => x.ok w B) ∧ n < w1.heap.size ∧ ∀ k u, x.cells[k]? = some u → w1.cell? ⟨n, k, none⟩ = some u := hV 21 (by omega)
      have hs1 := Lib.hid (hB.size.trans hsz)
      have hd1 := hB.defers.trans hd
      clear hV
      refine ready_one (i := 22) (by kernel_rfl) rfl rfl ?_
      refine op_push (.tmp 126) (.tmp 146) _ rfl 144 Tryz.underlying28 elem_el (by decide) x.cells 1 n k1 (ho.later hbw) k2 rfl kc x.one (by simp; omega) (by simp; unfold maxLen; omega) fun v' w2 ho2 hk2 hz2 => ?_
      obtain ⟨hcm3, ho3⟩ := hcm.push ho hbw kh (by simpa using ho2) hk2 hz2 8 (by omega)
      have gB := (hk2 g0 (Nat.lt_of_lt_of_le hcm.lt hbw.size) hcm.own).1
      have g2 : w2.cell? ⟨g0, 8, none⟩ = some v := (World.cell?_of_block gB).trans ((hbw.cell (p := ⟨g0, 8, none⟩) hcm.lt).trans g1)
      have g3 : w2.frozen? ⟨g0, 8, none⟩ = false := (frozen_of_block gB).trans ((hbw.frozen (p := ⟨g0, 8, none⟩) hcm.lt).trans (hcm.frz 8))
      clear hk2 hz2 gB kh kc kn k2 k1 ho2
      change wpAnyH _ _ _ _ _ _ _ (a1.put (some 147) v') w2
      generalize ha2 : a1.put _ v' = a2
      have s2 : Hid (a2.tmps.size = 208) := Lib.hid (by rw [← ha2]; simp only [size_put, hs1.out])
      have d2 : a2.defers = [] := by rw [← ha2, defers_put, hd1]
      have u57 : a2.eval (.tmp 147) = v' := by rw [← ha2]; simp [eval_put, hs1.out]
      have u1 : a2.eval (.tmp 1) = .pointer (some ⟨b0, 0, none⟩) := by rw [← ha2]; simp only [eval_put]; exact x1
      have u2 : a2.eval (.tmp 2) = .pointer (some ⟨b0 + 1, 0, none⟩) := by rw [← ha2]; simp only [eval_put]; exact x2
      have u3 : a2.eval (.tmp 3) = .pointer (some ⟨g0, 0, none⟩) := by rw [← ha2]; simp only [eval_put]; exact x3
      have u4 : a2.eval (.tmp 8) = .int .i64 j := by rw [← ha2]; simp only [eval_put]; exact x4
      clear ha2
      refine ready_one (i := 23) (by kernel_rfl) rfl rfl ?_
      have z3 := ev u3
      refine op_val (.pointer (some ⟨g0, 8, none⟩)) (by go_simp) ?_
      change wpAnyH _ _ _ _ _ _ _ (a2.put (some 148) (.pointer (some ⟨g0, 8, none⟩))) w2
      generalize ha3 : a2.put _ _ = a3
      have s3 : Hid (a3.tmps.size = 208) := Lib.hid (by rw [← ha3]; simp only [size_put, s2.out])
      have d3 : a3.defers = [] := by rw [← ha3, defers_put, d2]
      have t58 : a3.eval (.tmp 148) = .pointer (some ⟨g0, 8, none⟩) := by rw [← ha3]; simp [eval_put, s2.out]
      have t57 : a3.eval (.tmp 147) = v' := by rw [← ha3]; simp only [eval_put]; exact u57
      have t1 : a3.eval (.tmp 1) = .pointer (some ⟨b0, 0, none⟩) := by rw [← ha3]; simp only [eval_put]; exact u1
      have t2 : a3.eval (.tmp 2) = .pointer (some ⟨b0 + 1, 0, none⟩) := by rw [← ha3]; simp only [eval_put]; exact u2
      have t3 : a3.eval (.tmp 3) = .pointer (some ⟨g0, 0, none⟩) := by rw [← ha3]; simp only [eval_put]; exact u3
      have t4 : a3.eval (.tmp 8) = .int .i64 j := by rw [← ha3]; simp only [eval_put]; exact u4
      clear ha3
      refine ready_one (i := 24) (by kernel_rfl) rfl rfl ?_
      have z57 := ev t57
      have z58 := ev t58
      obtain ⟨A', c', N', hv'⟩ : ∃ A' c' N', v' = .slice A' N' c' := by obtain ⟨A', c', hv', -⟩ := ho3.form; exact ⟨A', c', _, hv'⟩
      subst hv'
      go_simp
      refine ready_none (by kernel_rfl) ?_
      change Exit.inBlock _ _ _ a3 _
      rw [fr_of a3 s3.out d3]
      have F1 : (fun i => a3.eval (.tmp i)) 1 = .pointer (some ⟨b0, 0, none⟩) := t1
      have F2 : (fun i => a3.eval (.tmp i)) 2 = .pointer (some ⟨b0 + 1, 0, none⟩) := t2
      have F3 : (fun i => a3.eval (.tmp i)) 3 = .pointer (some ⟨g0, 0, none⟩) := t3
      have F4 : (fun i => a3.eval (.tmp i)) 8 = .int .i64 j := t4
      generalize (fun i => a3.eval (.tmp i)) = f' at F1 F2 F3 F4 ⊢
      clear t1 t2 t3 t4 t57 t58 z57 z58 s3 d3 a3 z3 u1 u2 u3 u4 u57 s2 d2 a2 x1 x2 x3 x4 hs1 hd1 hB a1 e1 e2 e3 e4 hsz hd a hexit
      unfold fr
      simp only [F1, F2, F3, F4]
      go_wp2_with fail
      refine ⟨⟨⟨rfl, rfl, rfl, rfl, rfl⟩, j + 1, l ++ [x], .slice A' N' c', by show Value.int .i64 _ = _; go_num, by omega, ?_, by rw [List.map_append]; exact ho3, ?_⟩, ?_⟩
      · rw [List.map_append, hk, List.take_add_one, List.getElem?_map, hx]
        simp [kx]
      · rw [List.set_set] at hcm3
        exact hcm3
      · show m.el.l.length - (intOf (.int .i64 _)).toNat < m.el.l.length - (intOf (.int .i64 _)).toNat
        simp [intOf]
        omega
  · have hjl : j = m.el.l.length := by omega
    subst hjl
    rw [List.take_of_length_le (by simp)] at hk
    obtain ⟨s, hs1, hs2, hs3⟩ := hcm.fin (y := 144) (cells := El.cells) ho (by omega) (by unfold RB; omega)
    subst hs2
    have HX := Lib.hid (fun a (hf : Fm b0 g0 a) => hexit a wr s hf (by rw [hs1, hk]) hs3)
    clear hexit
    conv => arg 2; whnf
    unfold fr
    simp only [h1, h2, h3, h4]
    go_wp2_with fail
    exact HX.out _ ⟨rfl, rfl, rfl, rfl, rfl⟩
end Go.Proofs.YtmdgemdollfnhaaGreatDoor

/- A loop of the reference's CopyModule: the data segments. -/
namespace Go.Proofs.YtmdgemdollfnhaaGreatDoor
open Go.RowKit Trx

/-- what each operation of the region leaves in its slot. -/
def V5 (m : Mo) (b0 g0 j : Nat) (t : Da) (b o lo1 : Nat) (vo : Value) : Nat → Value → World → Prop
  | 0, v, _ => v = .pointer (some ⟨g0, 9, none⟩)
  | 1, v, _ => v = vo
  | 2, v, _ => v = .pointer (some ⟨b0, 9, none⟩)
  | 3, v, _ => v = .slice (some ⟨b, o, none⟩) m.da.l.length m.da.c
  | 4, v, _ => v = .int .i64 j
  | 5, v, _ => v = .pointer (some ⟨b, o + j * 10, none⟩)
  | 6, v, _ => v = .pointer (some ⟨b, o + j * 10, none⟩)
  | 7, v, _ => v = inA t.i
  | 8, v, w => ∃ A, v = .slice A 1 1 ∧ RdS w w.heap.size A (ofN [t.i.n])
  | 9, v, w => ∃ (c g : Nat) (p : Pl), v = .slice (some ⟨g, 0, none⟩) 1 c ∧ g < w.heap.size ∧ (∀ k, k < 9 → w.cell? ⟨g, k, none⟩ = (insC t.i.n p)[k]?) ∧ Hang (Win lo1 w) w (fun w B => NdOk w B t.i.n p)
  | 10, v, w => ∃ (g : Nat) (p : Pl), v = .pointer (some ⟨g, 0, none⟩) ∧ g < w.heap.size ∧ (∀ k, k < 9 → w.cell? ⟨g, k, none⟩ = (insC t.i.n p)[k]?) ∧ Hang (Win lo1 w) w (fun w B => NdOk w B t.i.n p)
  | 11, v, w => ∃ p : Pl, v = .agg (insC t.i.n p) ∧ Hang (Win lo1 w) w (fun w B => NdOk w B t.i.n p)
  | 12, v, _ => ∃ p, v = .slice (some p) 0 0
  | 13, v, _ => v = .pointer (some ⟨b0, 9, none⟩)
  | 14, v, _ => v = .slice (some ⟨b, o, none⟩) m.da.l.length m.da.c
  | 15, v, _ => v = .int .i64 j
  | 16, v, _ => v = .pointer (some ⟨b, o + j * 10, none⟩)
  | 17, v, _ => v = .pointer (some ⟨b, o + j * 10 + 9, none⟩)
  | 18, v, _ => v = t.bs.v
  | 19, v, w => ∃ l : BL, v = l.v ∧ l.bs = t.bs.bs ∧ Hang (Win lo1 w) w (fun w B => l.ok w B)
  | 20, v, w => ∃ x : Da, v = .agg #[.int .i64 x.i.n.op, .int .i64 x.i.n.a, .int .i64 x.i.n.b, .int .u64 x.i.n.v, .int .i64 x.i.n.t, .slice x.i.p.AL x.i.n.L.length x.i.p.cL, .slice x.i.p.Ab (len x.i.n.body) x.i.p.cb, .slice x.i.p.Ae (len x.i.n.els) x.i.p.ce, .bool x.i.n.he, x.bs.v] ∧ kDa x = kDa t ∧ Hang (Win lo1 w) w (fun w B => x.ok w B)
  | 21, v, w => ∃ (x : Da) (n : Nat), v = .slice (some ⟨n, 0, none⟩) 1 1 ∧ kDa x = kDa t ∧ Hang (Win lo1 w) w (fun w B => x.ok w B) ∧ n < w.heap.size ∧ ∀ k u, x.cells[k]? = some u → w.cell? ⟨n, k, none⟩ = some u
  | _, _, _ => True
theorem V5.mono {m : Mo} {b0 g0 j : Nat} {t : Da} {b o lo1 : Nat} {vo : Value} (i : Nat) (v : Value) (w w' : World) (h : V5 m b0 g0 j t b o lo1 vo i v w) (hb : Below w.heap.size w w') : V5 m b0 g0 j t b o lo1 vo i v w' := by
  unfold V5 at *
  split at h
  all_goals try exact h
  · obtain ⟨A, h1, h2⟩ := h; exact ⟨A, h1, h2.later hb⟩
  · obtain ⟨c, g, p, h1, h2, h3, h4⟩ := h; exact ⟨c, g, p, h1, Nat.lt_of_lt_of_le h2 hb.size, fun k hk => (hb.cell (p := ⟨g, k, none⟩) h2).trans (h3 k hk), h4.later hb⟩
  · obtain ⟨g, p, h1, h2, h3, h4⟩ := h; exact ⟨g, p, h1, Nat.lt_of_lt_of_le h2 hb.size, fun k hk => (hb.cell (p := ⟨g, k, none⟩) h2).trans (h3 k hk), h4.later hb⟩
  · obtain ⟨p, h1, h2⟩ := h; exact ⟨p, h1, h2.later hb⟩
  · obtain ⟨l, h1, h2, h3⟩ := h; exact ⟨l, h1, h2, h3.later hb⟩
  · obtain ⟨l, h1, h2, h3⟩ := h; exact ⟨l, h1, h2, h3.later hb⟩
  · obtain ⟨l, n, h1, h2, h3, h4, h5⟩ := h; exact ⟨l, n, h1, h2, h3.later hb, Nat.lt_of_lt_of_le h4 hb.size, fun k u hk => (hb.cell (p := ⟨n, k, none⟩) h4).trans (h5 k u hk)⟩
theorem elem_da : ElemK Tryz.prog 61 10 144 := ElemK.mk_ (z := .agg #[.int .i64 0, .int .i64 0, .int .i64 0, .int .u64 0, .int .i64 0, .slice none 0 0, .slice none 0 0, .slice none 0 0, .bool false, .slice none 0 0]) (by kernel_rfl) rfl
theorem Da.one (t : Da) : ∀ u ∈ t.cells, u.oneCell' = true := by
  intro u hu
  simp [Da.cells, In.cells, insC] at hu
  rcases hu with rfl | rfl | rfl | rfl | rfl | rfl | rfl | rfl | rfl | rfl <;> rfl

set_option maxHeartbeats 8000000 in
set_option maxRecDepth 100000 in
theorem loop_da (m : Mo) (w0 : World) (b0 g0 : Nat) (hC : CmC m w0 b0) (vals : List Value) (hv : vals.set 9 (.slice none 0 0) = vals) (Ds : List (World → Nat → Prop)) (Q0 : Exit → Act → World → Prop)
    (hexit : ∀ (a : Act) (wr : World) (s : SL Da), Fm b0 g0 a → s.l.map kDa = m.da.l.map kDa →
      (∀ {β : Type} (q' : World → Nat → β → Prop), Cm w0.heap.size g0 w0 wr (.slice none 0 0) (vals.set 9 s.v) q' [] ((fun w B => s.ok Da.cells Da.ok 10 144 w B) :: Ds)) → Q0 (.exit 8) a wr)
    (a : Act) (w : World) (hf : Fm b0 g0 a) (h4 : a.eval (.tmp 9) = .int .i64 0) (hcm : Cm w0.heap.size g0 w0 w (.slice none 0 0) vals Da.ok [] Ds) :
    (Code.loop (cmBody 4)).wp Tryz.prog Q0 a w := by
  have hle : m.da.l.length * 144 ≤ 140737488351232 := by have := hC.ok.da.rb; unfold RB at this; exact this
  refine wp_loop (fun a wr => Fm b0 g0 a ∧ ∃ (j : Nat) (l : List Da) (v : Value), a.eval (.tmp 9) = .int .i64 j ∧ j ≤ m.da.l.length ∧ l.map kDa = (m.da.l.map kDa).take j ∧
    OwnK w0.heap.size w0 wr 61 10 v (l.map Da.cells) ∧ Cm w0.heap.size g0 w0 wr v (vals.set 9 v) Da.ok l Ds) (fun a _ => m.da.l.length - (intOf (a.eval (.tmp 9))).toNat)
    ⟨hf, 0, [], .slice none 0 0, h4, by omega, by simp, OwnK.nil_ _ _ _ _ hcm.below (Nat.le_trans hcm.hlo (Nat.le_of_lt hcm.lt)), by rw [hv]; exact hcm⟩ ?_
  clear hf h4 hcm a w
  rintro a wr ⟨hf, j, l, v, h4, hj, hk, ho, hcm⟩
  rw [fr_of a hf.size hf.defers]
  have h1 : (fun i => a.eval (.tmp i)) 1 = .pointer (some ⟨b0, 0, none⟩) := hf.e1
  have h2 : (fun i => a.eval (.tmp i)) 2 = .pointer (some ⟨b0 + 1, 0, none⟩) := hf.e2
  have h3 : (fun i => a.eval (.tmp i)) 3 = .pointer (some ⟨g0, 0, none⟩) := hf.e3
  replace h4 : (fun i => a.eval (.tmp i)) 9 = .int .i64 j := h4
  generalize (fun i => a.eval (.tmp i)) = f at h1 h2 h3 h4 ⊢
  clear hf a
  have hll : l.length = j := by have := congrArg List.length hk; simp at this; omega
  have hbel := hcm.below
  have hb0 : b0 < wr.heap.size := Nat.lt_of_lt_of_le hC.lt hbel.size
  have hc0 : wr.cell? ⟨b0, 9, none⟩ = some (.slice m.da.A m.da.l.length m.da.c) := (hbel.cell (p := ⟨b0, 9, none⟩) hC.lt).trans (hC.box 9 (by omega))
  by_cases hlt : j < m.da.l.length
  · obtain ⟨b, o, t, hA, hx, hb, hok, hcell⟩ := hC.ok.da.at_ hlt
    have q0 : wr.cell? ⟨b, o + j * 10, none⟩ = some (.int .i64 t.i.n.op) := (hbel.cell (p := ⟨b, _, none⟩) hb).trans (hcell 0 (by omega))
    have q1 : wr.cell? ⟨b, o + j * 10 + 1, none⟩ = some (.int .i64 t.i.n.a) := (hbel.cell (p := ⟨b, _, none⟩) hb).trans (hcell 1 (by omega))
    have q2 : wr.cell? ⟨b, o + j * 10 + 2, none⟩ = some (.int .i64 t.i.n.b) := (hbel.cell (p := ⟨b, _, none⟩) hb).trans (hcell 2 (by omega))
    have q3 : wr.cell? ⟨b, o + j * 10 + 3, none⟩ = some (.int .u64 t.i.n.v) := (hbel.cell (p := ⟨b, _, none⟩) hb).trans (hcell 3 (by omega))
    have q4 : wr.cell? ⟨b, o + j * 10 + 4, none⟩ = some (.int .i64 t.i.n.t) := (hbel.cell (p := ⟨b, _, none⟩) hb).trans (hcell 4 (by omega))
    have q5 : wr.cell? ⟨b, o + j * 10 + 5, none⟩ = some (.slice t.i.p.AL t.i.n.L.length t.i.p.cL) := (hbel.cell (p := ⟨b, _, none⟩) hb).trans (hcell 5 (by omega))
    have q6 : wr.cell? ⟨b, o + j * 10 + 6, none⟩ = some (.slice t.i.p.Ab (len t.i.n.body) t.i.p.cb) := (hbel.cell (p := ⟨b, _, none⟩) hb).trans (hcell 6 (by omega))
    have q7 : wr.cell? ⟨b, o + j * 10 + 7, none⟩ = some (.slice t.i.p.Ae (len t.i.n.els) t.i.p.ce) := (hbel.cell (p := ⟨b, _, none⟩) hb).trans (hcell 7 (by omega))
    have q8 : wr.cell? ⟨b, o + j * 10 + 8, none⟩ = some (.bool t.i.n.he) := (hbel.cell (p := ⟨b, _, none⟩) hb).trans (hcell 8 (by omega))
    have q9 : wr.cell? ⟨b, o + j * 10 + 9, none⟩ = some (t.bs.v) := (hbel.cell (p := ⟨b, _, none⟩) hb).trans (hcell 9 (by omega))
    have hb' := Nat.lt_of_lt_of_le hb hbel.size
    have g1 : wr.cell? ⟨g0, 9, none⟩ = some v := (hcm.cells 9 (by omega)).trans (by have := hcm.n; simp at this; simp [this])
    have hok' := hok.keep hbel.size (Below.kp hbel)
    conv => arg 2; whnf
    unfold fr
    simp only [h1, h2, h3, h4]
    go_wp2_with fail
    refine gen_act 9 208 (v1 := .pointer (some ⟨b0, 0, none⟩)) (v2 := .pointer (some ⟨b0 + 1, 0, none⟩)) (v3 := .pointer (some ⟨g0, 0, none⟩)) (vk := .int .i64 j) _ rfl rfl rfl rfl rfl rfl ?_
    intro a hsz hd e1 e2 e3 e4
    refine region_vals 22 25 (V5 m b0 g0 j t b o wr.heap.size v) (fun i => i + 156) a wr (by kernel_rfl) rfl (by omega) (by kernel_rfl) (by kernel_rfl) (by kernel_rfl) (by rw [hsz]; kernel_rfl) V5.mono ?_ ?_
    · intro i hi a1 w1 hB hV
      have hbw : Below wr.heap.size wr w1 := ((Below.refl wr.heap.size wr).drew).trans hB.below
      have z1 := ev ((hB.same 1 (fun i _ => by omega)).trans e1)
      have z3 := ev ((hB.same 3 (fun i _ => by omega)).trans e3)
      have z4 := ev ((hB.same 9 (fun i _ => by omega)).trans e4)
      have c0 := (hbw.cell (p := ⟨b0, 9, none⟩) hb0).trans hc0
      have c3 := (hbw.cell (p := ⟨g0, 9, none⟩) hcm.lt).trans g1
      have p0 := (hbw.cell (p := ⟨b, _, none⟩) hb').trans q0
      have p1 := (hbw.cell (p := ⟨b, _, none⟩) hb').trans q1
      have p2 := (hbw.cell (p := ⟨b, _, none⟩) hb').trans q2
      have p3 := (hbw.cell (p := ⟨b, _, none⟩) hb').trans q3
      have p4 := (hbw.cell (p := ⟨b, _, none⟩) hb').trans q4
      have p5 := (hbw.cell (p := ⟨b, _, none⟩) hb').trans q5
      have p6 := (hbw.cell (p := ⟨b, _, none⟩) hb').trans q6
      have p7 := (hbw.cell (p := ⟨b, _, none⟩) hb').trans q7
      have p8 := (hbw.cell (p := ⟨b, _, none⟩) hb').trans q8
      have p9 := (hbw.cell (p := ⟨b, _, none⟩) hb').trans q9
      have hok1 := hok'.keep hbw.size (Below.kp hbw)
      match i, hi with
      | 0, _ =>
        exact op_plain rfl rfl (op_val (.pointer (some ⟨g0, 9, none⟩)) (by go_simp) ⟨_, rfl, Below.refl _ _, rfl⟩)
      | 1, _ =>
        have k0 := ev (show a1.eval (.tmp 156) = _ from hV ⟨0, .data⟩ (.head _) rfl)
        exact op_plain rfl rfl (op_val (v) (by go_simp) ⟨_, rfl, Below.refl _ _, rfl⟩)
      | 2, _ =>
        exact op_plain rfl rfl (op_val (.pointer (some ⟨b0, 9, none⟩)) (by go_simp) ⟨_, rfl, Below.refl _ _, rfl⟩)
      | 3, _ =>
        have k0 := ev (show a1.eval (.tmp 158) = _ from hV ⟨2, .data⟩ (.head _) rfl)
        exact op_plain rfl rfl (op_val (.slice (some ⟨b, o, none⟩) m.da.l.length m.da.c) (by go_simp) ⟨_, rfl, Below.refl _ _, rfl⟩)
      | 4, _ =>
        exact op_plain rfl rfl (op_val (.int .i64 j) (by go_simp) ⟨_, rfl, Below.refl _ _, rfl⟩)
      | 5, _ =>
        have k0 := ev (show a1.eval (.tmp 159) = _ from hV ⟨3, .data⟩ (.head _) rfl)
        have k1 := ev (show a1.eval (.tmp 160) = _ from hV ⟨4, .data⟩ (.tail _ (.head _)) rfl)
        exact op_plain rfl rfl (op_val (.pointer (some ⟨b, o + j * 10, none⟩)) (by go_simp) ⟨_, rfl, Below.refl _ _, rfl⟩)
      | 6, _ =>
        have k0 := ev (show a1.eval (.tmp 161) = _ from hV ⟨5, .data⟩ (.head _) rfl)
        exact op_plain rfl rfl (op_val (.pointer (some ⟨b, o + j * 10, none⟩)) (by go_simp) ⟨_, rfl, Below.refl _ _, rfl⟩)
      | 7, _ =>
        have k0 := ev (show a1.eval (.tmp 162) = _ from hV ⟨6, .data⟩ (.head _) rfl)
        exact op_plain rfl rfl (op_val (.agg #[.int .i64 t.i.n.op, .int .i64 t.i.n.a, .int .i64 t.i.n.b, .int .u64 t.i.n.v, .int .i64 t.i.n.t, .slice t.i.p.AL t.i.n.L.length t.i.p.cL, .slice t.i.p.Ab (len t.i.n.body) t.i.p.cb, .slice t.i.p.Ae (len t.i.n.els) t.i.p.ce, .bool t.i.n.he]) (by go_simp) ⟨_, rfl, Below.refl _ _, rfl⟩)
      | 8, _ =>
        have k0 := ev (show a1.eval (.tmp 163) = _ from hV ⟨7, .data⟩ (.head _) rfl)
        have HCp := Lib.hid (single_any t.i w1 hok1.i)
        refine op_plain rfl rfl ?_
        go_simp
        refine HCp.out.mono ?_
        rintro e w' ⟨A', rfl, y1, y2⟩
        exact ⟨_, rfl, y2, A', rfl, y1⟩
      | 9, _ =>
        obtain ⟨A, k0, k1⟩ : ∃ A, a1.eval (.tmp 164) = .slice A 1 1 ∧ RdS w1 w1.heap.size A (ofN [t.i.n]) := hV ⟨8, .data⟩ (.head _) rfl
        have k0 := ev k0
        have HCp := Lib.hid (Copy_one t.i A 1 w1 k1 hok1.i.light)
        refine op_plain rfl rfl ?_
        go_simp
        refine HCp.out.mono ?_
        rintro e w' ⟨c', g, p, rfl, -, y1, y2, y3, y4⟩
        exact ⟨_, rfl, y4, c', g, p, rfl, y1, y2, y3.lower hbw.size⟩
      | 10, _ =>
        obtain ⟨c', g, p, k0, k1, k2, k3⟩ : ∃ (c g : Nat) (p : Pl), a1.eval (.tmp 165) = .slice (some ⟨g, 0, none⟩) 1 c ∧ g < w1.heap.size ∧ (∀ k, k < 9 → w1.cell? ⟨g, k, none⟩ = (insC t.i.n p)[k]?) ∧ Hang (Win wr.heap.size w1) w1 (fun w B => NdOk w B t.i.n p) := hV ⟨9, .data⟩ (.head _) rfl
        have k0 := ev k0
        exact op_plain rfl rfl (op_val (.pointer (some ⟨g, 0, none⟩)) (by go_simp) ⟨_, rfl, Below.refl _ _, g, p, rfl, k1, k2, k3⟩)
      | 11, _ =>
        obtain ⟨g, p, k0, k1, k2, k3⟩ : ∃ (g : Nat) (p : Pl), a1.eval (.tmp 166) = .pointer (some ⟨g, 0, none⟩) ∧ g < w1.heap.size ∧ (∀ k, k < 9 → w1.cell? ⟨g, k, none⟩ = (insC t.i.n p)[k]?) ∧ Hang (Win wr.heap.size w1) w1 (fun w B => NdOk w B t.i.n p) := hV ⟨10, .data⟩ (.head _) rfl
        have k0 := ev k0
        have r0 : w1.cell? ⟨g, 0, none⟩ = some (.int .i64 t.i.n.op) := k2 0 (by omega)
        have r1 : w1.cell? ⟨g, 1, none⟩ = some (.int .i64 t.i.n.a) := k2 1 (by omega)
        have r2 : w1.cell? ⟨g, 2, none⟩ = some (.int .i64 t.i.n.b) := k2 2 (by omega)
        have r3 : w1.cell? ⟨g, 3, none⟩ = some (.int .u64 t.i.n.v) := k2 3 (by omega)
        have r4 : w1.cell? ⟨g, 4, none⟩ = some (.int .i64 t.i.n.t) := k2 4 (by omega)
        have r5 : w1.cell? ⟨g, 5, none⟩ = some (.slice p.AL t.i.n.L.length p.cL) := k2 5 (by omega)
        have r6 : w1.cell? ⟨g, 6, none⟩ = some (.slice p.Ab (len t.i.n.body) p.cb) := k2 6 (by omega)
        have r7 : w1.cell? ⟨g, 7, none⟩ = some (.slice p.Ae (len t.i.n.els) p.ce) := k2 7 (by omega)
        have r8 : w1.cell? ⟨g, 8, none⟩ = some (.bool t.i.n.he) := k2 8 (by omega)
        clear k2
        exact op_plain rfl rfl (op_val (.agg #[.int .i64 t.i.n.op, .int .i64 t.i.n.a, .int .i64 t.i.n.b, .int .u64 t.i.n.v, .int .i64 t.i.n.t, .slice p.AL t.i.n.L.length p.cL, .slice p.Ab (len t.i.n.body) p.cb, .slice p.Ae (len t.i.n.els) p.ce, .bool t.i.n.he]) (by go_simp) ⟨_, rfl, Below.refl _ _, p, rfl, k3⟩)
      | 12, _ =>
        exact op_plain rfl rfl (by go_simp; exact ⟨_, rfl, (Below.refl _ _).alloc (Nat.le_refl _) _, ⟨_, rfl⟩⟩)
      | 13, _ =>
        exact op_plain rfl rfl (op_val (.pointer (some ⟨b0, 9, none⟩)) (by go_simp) ⟨_, rfl, Below.refl _ _, rfl⟩)
      | 14, _ =>
        have k0 := ev (show a1.eval (.tmp 169) = _ from hV ⟨13, .data⟩ (.head _) rfl)
        exact op_plain rfl rfl (op_val (.slice (some ⟨b, o, none⟩) m.da.l.length m.da.c) (by go_simp) ⟨_, rfl, Below.refl _ _, rfl⟩)
      | 15, _ =>
        exact op_plain rfl rfl (op_val (.int .i64 j) (by go_simp) ⟨_, rfl, Below.refl _ _, rfl⟩)
      | 16, _ =>
        have k0 := ev (show a1.eval (.tmp 170) = _ from hV ⟨14, .data⟩ (.head _) rfl)
        have k1 := ev (show a1.eval (.tmp 171) = _ from hV ⟨15, .data⟩ (.tail _ (.head _)) rfl)
        exact op_plain rfl rfl (op_val (.pointer (some ⟨b, o + j * 10, none⟩)) (by go_simp) ⟨_, rfl, Below.refl _ _, rfl⟩)
      | 17, _ =>
        have k0 := ev (show a1.eval (.tmp 172) = _ from hV ⟨16, .data⟩ (.head _) rfl)
        exact op_plain rfl rfl (op_val (.pointer (some ⟨b, o + j * 10 + 9, none⟩)) (by go_simp) ⟨_, rfl, Below.refl _ _, rfl⟩)
      | 18, _ =>
        have k0 := ev (show a1.eval (.tmp 173) = _ from hV ⟨17, .data⟩ (.head _) rfl)
        exact op_plain rfl rfl (op_val (t.bs.v) (by go_simp) ⟨_, rfl, Below.refl _ _, rfl⟩)
      | 19, _ =>
        have hi1 := hok1.bs
        obtain ⟨p, k0⟩ : ∃ p, a1.eval (.tmp 168) = .slice (some p) 0 0 := hV ⟨12, .data⟩ (.head _) rfl
        have k1 : a1.eval (.tmp 174) = t.bs.v := hV ⟨18, .data⟩ (.tail _ (.head _)) rfl
        refine op_plain rfl rfl (op_cat0 (.tmp 168) (.tmp 174) _ rfl 1 Tryz.underlying59 elem_byte (by decide) p k0 k1 hi1.sl.ones (ones_len _) (by simp) (u8_ones _) (by have := hi1.rb; unfold RB at this; omega) (by have := hi1.le; have := hi1.c; omega) fun A' c' w' y1 y2 y3 y4 => ?_)
        exact ⟨_, rfl, y3, ⟨t.bs.bs, A', c'⟩, rfl, rfl, (hang_bl y4 y1 y2 hi1.rb).lower hbw.size⟩
      | 20, _ =>
        obtain ⟨l0, k0, k0''⟩ : ∃ p : Pl, a1.eval (.tmp 167) = .agg (insC t.i.n p) ∧ Hang (Win wr.heap.size w1) w1 (fun w B => NdOk w B t.i.n p) := hV ⟨11, .data⟩ (.head _) rfl
        have k0 := ev k0
        unfold insC at k0
        obtain ⟨l1, k1, k1', k1''⟩ : ∃ l : BL, a1.eval (.tmp 175) = l.v ∧ l.bs = t.bs.bs ∧ Hang (Win wr.heap.size w1) w1 (fun w B => l.ok w B) := hV ⟨19, .data⟩ (.tail _ (.head _)) rfl
        have k1 := ev k1
        exact op_plain rfl rfl (op_val (.agg #[.int .i64 t.i.n.op, .int .i64 t.i.n.a, .int .i64 t.i.n.b, .int .u64 t.i.n.v, .int .i64 t.i.n.t, .slice l0.AL t.i.n.L.length l0.cL, .slice l0.Ab (len t.i.n.body) l0.cb, .slice l0.Ae (len t.i.n.els) l0.ce, .bool t.i.n.he, l1.v]) (by go_simp) ⟨_, rfl, Below.refl _ _, ⟨⟨t.i.n, l0⟩, l1⟩, rfl, by simp [kDa, k1'], (k0''.and k1'').imp fun _ _ h => ⟨⟨h.1, hok'.i.light⟩, h.2⟩⟩)
      | 21, _ =>
        obtain ⟨x, k0, k0', k0''⟩ : ∃ x : Da, a1.eval (.tmp 176) = .agg #[.int .i64 x.i.n.op, .int .i64 x.i.n.a, .int .i64 x.i.n.b, .int .u64 x.i.n.v, .int .i64 x.i.n.t, .slice x.i.p.AL x.i.n.L.length x.i.p.cL, .slice x.i.p.Ab (len x.i.n.body) x.i.p.cb, .slice x.i.p.Ae (len x.i.n.els) x.i.p.ce, .bool x.i.n.he, x.bs.v] ∧ kDa x = kDa t ∧ Hang (Win wr.heap.size w1) w1 (fun w B => x.ok w B) := hV ⟨20, .data⟩ (.head _) rfl
        have k0 := ev k0
        exact op_plain rfl rfl (by go_simp; exact ⟨_, rfl, (Below.refl _ _).alloc (Nat.le_refl _) _, x, w1.heap.size, rfl, k0', k0''.later ((Below.refl _ _).alloc (Nat.le_refl _) _), by simp, fun k u hk => by rw [World.cell?_alloc_at _ _ _ _ rfl]; simpa [Da.cells, In.cells, insC] using hk⟩)
      | n + 22, h => exact absurd h (by omega)
    · intro a1 w1 hB hV
      have hbw : Below wr.heap.size wr w1 := ((Below.refl wr.heap.size wr).drew).trans hB.below
      have x1 := (hB.same 1 (fun i _ => by omega)).trans e1
      have x2 := (hB.same 2 (fun i _ => by omega)).trans e2
      have x3 := (hB.same 3 (fun i _ => by omega)).trans e3
      have x4 := (hB.same 9 (fun i _ => by omega)).trans e4
      have k1 : a1.eval (.tmp 157) = v := hV 1 (by omega)
      obtain ⟨x, n, k2, kx, kh, kn, kc⟩ : ∃ (x : Da) (n : Nat), a1.eval (.tmp 177) = .slice (some ⟨n, 0, none⟩) 1 1 ∧ kDa x = kDa t ∧ Hang (Win wr.heap.size w1) w1 (fun w B => x.ok w B) ∧ n < w1.heap.size ∧ ∀ k u, x.cells[k]? = some u → w1.cell? ⟨n, k, none⟩ = some u := hV 21 (by omega)
      have hs1 := Lib.hid (hB.size.trans hsz)
      have hd1 := hB.defers.trans hd
      clear hV
      refine ready_one (i := 22) (by kernel_rfl) rfl rfl ?_
      refine op_push (.tmp 157) (.tmp 177) _ rfl 144 Tryz.underlying29 elem_da (by decide) x.cells 1 n k1 (ho.later hbw) k2 rfl kc x.one (by simp; omega) (by simp; unfold maxLen; omega) fun v' w2 ho2 hk2 hz2 => ?_
      obtain ⟨hcm3, ho3⟩ := hcm.push ho hbw kh (by simpa using ho2) hk2 hz2 9 (by omega)
      have gB := (hk2 g0 (Nat.lt_of_lt_of_le hcm.lt hbw.size) hcm.own).1
      have g2 : w2.cell? ⟨g0, 9, none⟩ = some v := (World.cell?_of_block gB).trans ((hbw.cell (p := ⟨g0, 9, none⟩) hcm.lt).trans g1)
      have g3 : w2.frozen? ⟨g0, 9, none⟩ = false := (frozen_of_block gB).trans ((hbw.frozen (p := ⟨g0, 9, none⟩) hcm.lt).trans (hcm.frz 9))
      clear hk2 hz2 gB kh kc kn k2 k1 ho2
      change wpAnyH _ _ _ _ _ _ _ (a1.put (some 178) v') w2
      generalize ha2 : a1.put _ v' = a2
      have s2 : Hid (a2.tmps.size = 208) := Lib.hid (by rw [← ha2]; simp only [size_put, hs1.out])
      have d2 : a2.defers = [] := by rw [← ha2, defers_put, hd1]
      have u57 : a2.eval (.tmp 178) = v' := by rw [← ha2]; simp [eval_put, hs1.out]
      have u1 : a2.eval (.tmp 1) = .pointer (some ⟨b0, 0, none⟩) := by rw [← ha2]; simp only [eval_put]; exact x1
      have u2 : a2.eval (.tmp 2) = .pointer (some ⟨b0 + 1, 0, none⟩) := by rw [← ha2]; simp only [eval_put]; exact x2
      have u3 : a2.eval (.tmp 3) = .pointer (some ⟨g0, 0, none⟩) := by rw [← ha2]; simp only [eval_put]; exact x3
      have u4 : a2.eval (.tmp 9) = .int .i64 j := by rw [← ha2]; simp only [eval_put]; exact x4
      clear ha2
      refine ready_one (i := 23) (by kernel_rfl) rfl rfl ?_
      have z3 := ev u3
      refine op_val (.pointer (some ⟨g0, 9, none⟩)) (by go_simp) ?_
      change wpAnyH _ _ _ _ _ _ _ (a2.put (some 179) (.pointer (some ⟨g0, 9, none⟩))) w2
      generalize ha3 : a2.put _ _ = a3
      have s3 : Hid (a3.tmps.size = 208) := Lib.hid (by rw [← ha3]; simp only [size_put, s2.out])
      have d3 : a3.defers = [] := by rw [← ha3, defers_put, d2]
      have t58 : a3.eval (.tmp 179) = .pointer (some ⟨g0, 9, none⟩) := by rw [← ha3]; simp [eval_put, s2.out]
      have t57 : a3.eval (.tmp 178) = v' := by rw [← ha3]; simp only [eval_put]; exact u57
      have t1 : a3.eval (.tmp 1) = .pointer (some ⟨b0, 0, none⟩) := by rw [← ha3]; simp only [eval_put]; exact u1
      have t2 : a3.eval (.tmp 2) = .pointer (some ⟨b0 + 1, 0, none⟩) := by rw [← ha3]; simp only [eval_put]; exact u2
      have t3 : a3.eval (.tmp 3) = .pointer (some ⟨g0, 0, none⟩) := by rw [← ha3]; simp only [eval_put]; exact u3
      have t4 : a3.eval (.tmp 9) = .int .i64 j := by rw [← ha3]; simp only [eval_put]; exact u4
      clear ha3
      refine ready_one (i := 24) (by kernel_rfl) rfl rfl ?_
      have z57 := ev t57
      have z58 := ev t58
      obtain ⟨A', c', N', hv'⟩ : ∃ A' c' N', v' = .slice A' N' c' := by obtain ⟨A', c', hv', -⟩ := ho3.form; exact ⟨A', c', _, hv'⟩
      subst hv'
      go_simp
      refine ready_none (by kernel_rfl) ?_
      change Exit.inBlock _ _ _ a3 _
      rw [fr_of a3 s3.out d3]
      have F1 : (fun i => a3.eval (.tmp i)) 1 = .pointer (some ⟨b0, 0, none⟩) := t1
      have F2 : (fun i => a3.eval (.tmp i)) 2 = .pointer (some ⟨b0 + 1, 0, none⟩) := t2
      have F3 : (fun i => a3.eval (.tmp i)) 3 = .pointer (some ⟨g0, 0, none⟩) := t3
      have F4 : (fun i => a3.eval (.tmp i)) 9 = .int .i64 j := t4
      generalize (fun i => a3.eval (.tmp i)) = f' at F1 F2 F3 F4 ⊢
      clear t1 t2 t3 t4 t57 t58 z57 z58 s3 d3 a3 z3 u1 u2 u3 u4 u57 s2 d2 a2 x1 x2 x3 x4 hs1 hd1 hB a1 e1 e2 e3 e4 hsz hd a hexit
      unfold fr
      simp only [F1, F2, F3, F4]
      go_wp2_with fail
      refine ⟨⟨⟨rfl, rfl, rfl, rfl, rfl⟩, j + 1, l ++ [x], .slice A' N' c', by show Value.int .i64 _ = _; go_num, by omega, ?_, by rw [List.map_append]; exact ho3, ?_⟩, ?_⟩
      · rw [List.map_append, hk, List.take_add_one, List.getElem?_map, hx]
        simp [kx]
      · rw [List.set_set] at hcm3
        exact hcm3
      · show m.da.l.length - (intOf (.int .i64 _)).toNat < m.da.l.length - (intOf (.int .i64 _)).toNat
        simp [intOf]
        omega
  · have hjl : j = m.da.l.length := by omega
    subst hjl
    rw [List.take_of_length_le (by simp)] at hk
    obtain ⟨s, hs1, hs2, hs3⟩ := hcm.fin (y := 144) (cells := Da.cells) ho (by omega) (by unfold RB; omega)
    subst hs2
    have HX := Lib.hid (fun a (hf : Fm b0 g0 a) => hexit a wr s hf (by rw [hs1, hk]) hs3)
    clear hexit
    conv => arg 2; whnf
    unfold fr
    simp only [h1, h2, h3, h4]
    go_wp2_with fail
    exact HX.out _ ⟨rfl, rfl, rfl, rfl, rfl⟩
end Go.Proofs.YtmdgemdollfnhaaGreatDoor

/- A loop of the reference's CopyModule: the custom sections. -/
namespace Go.Proofs.YtmdgemdollfnhaaGreatDoor
open Go.RowKit Trx

/-- what each operation of the region leaves in its slot. -/
def V6 (m : Mo) (b0 g0 j : Nat) (t : Cu) (b o lo1 : Nat) (vo : Value) : Nat → Value → World → Prop
  | 0, v, _ => v = .pointer (some ⟨g0, 10, none⟩)
  | 1, v, _ => v = vo
  | 2, v, _ => v = .pointer (some ⟨b0, 10, none⟩)
  | 3, v, _ => v = .slice (some ⟨b, o, none⟩) m.cu.l.length m.cu.c
  | 4, v, _ => v = .int .i64 j
  | 5, v, _ => v = .pointer (some ⟨b, o + j * 2, none⟩)
  | 6, v, _ => v = .pointer (some ⟨b, o + j * 2, none⟩)
  | 7, v, _ => v = .string t.nm
  | 8, v, _ => ∃ p, v = .slice (some p) 0 0
  | 9, v, _ => v = .pointer (some ⟨b0, 10, none⟩)
  | 10, v, _ => v = .slice (some ⟨b, o, none⟩) m.cu.l.length m.cu.c
  | 11, v, _ => v = .int .i64 j
  | 12, v, _ => v = .pointer (some ⟨b, o + j * 2, none⟩)
  | 13, v, _ => v = .pointer (some ⟨b, o + j * 2 + 1, none⟩)
  | 14, v, _ => v = t.bs.v
  | 15, v, w => ∃ l : BL, v = l.v ∧ l.bs = t.bs.bs ∧ Hang (Win lo1 w) w (fun w B => l.ok w B)
  | 16, v, w => ∃ x : Cu, v = .agg #[.string x.nm, x.bs.v] ∧ kCu x = kCu t ∧ Hang (Win lo1 w) w (fun w B => x.ok w B)
  | 17, v, w => ∃ (x : Cu) (n : Nat), v = .slice (some ⟨n, 0, none⟩) 1 1 ∧ kCu x = kCu t ∧ Hang (Win lo1 w) w (fun w B => x.ok w B) ∧ n < w.heap.size ∧ ∀ k u, x.cells[k]? = some u → w.cell? ⟨n, k, none⟩ = some u
  | _, _, _ => True
theorem V6.mono {m : Mo} {b0 g0 j : Nat} {t : Cu} {b o lo1 : Nat} {vo : Value} (i : Nat) (v : Value) (w w' : World) (h : V6 m b0 g0 j t b o lo1 vo i v w) (hb : Below w.heap.size w w') : V6 m b0 g0 j t b o lo1 vo i v w' := by
  unfold V6 at *
  split at h
  all_goals try exact h
  · obtain ⟨l, h1, h2, h3⟩ := h; exact ⟨l, h1, h2, h3.later hb⟩
  · obtain ⟨l, h1, h2, h3⟩ := h; exact ⟨l, h1, h2, h3.later hb⟩
  · obtain ⟨l, n, h1, h2, h3, h4, h5⟩ := h; exact ⟨l, n, h1, h2, h3.later hb, Nat.lt_of_lt_of_le h4 hb.size, fun k u hk => (hb.cell (p := ⟨n, k, none⟩) h4).trans (h5 k u hk)⟩
theorem elem_cu : ElemK Tryz.prog 64 2 40 := ElemK.mk_ (z := .agg #[.string ⟨#[]⟩, .slice none 0 0]) (by kernel_rfl) rfl
theorem Cu.one (t : Cu) : ∀ u ∈ t.cells, u.oneCell' = true := by
  intro u hu
  simp [Cu.cells, In.cells, insC] at hu
  rcases hu with rfl | rfl <;> rfl

set_option maxHeartbeats 8000000 in
set_option maxRecDepth 100000 in
theorem loop_cu (m : Mo) (w0 : World) (b0 g0 : Nat) (hC : CmC m w0 b0) (vals : List Value) (hv : vals.set 10 (.slice none 0 0) = vals) (Ds : List (World → Nat → Prop)) (Q0 : Exit → Act → World → Prop)
    (hexit : ∀ (a : Act) (wr : World) (s : SL Cu), Fm b0 g0 a → s.l.map kCu = m.cu.l.map kCu →
      (∀ {β : Type} (q' : World → Nat → β → Prop), Cm w0.heap.size g0 w0 wr (.slice none 0 0) (vals.set 10 s.v) q' [] ((fun w B => s.ok Cu.cells Cu.ok 2 40 w B) :: Ds)) → Q0 (.exit 10) a wr)
    (a : Act) (w : World) (hf : Fm b0 g0 a) (h4 : a.eval (.tmp 10) = .int .i64 0) (hcm : Cm w0.heap.size g0 w0 w (.slice none 0 0) vals Cu.ok [] Ds) :
    (Code.loop (cmBody 5)).wp Tryz.prog Q0 a w := by
  have hle : m.cu.l.length * 40 ≤ 140737488351232 := by have := hC.ok.cu.rb; unfold RB at this; exact this
  refine wp_loop (fun a wr => Fm b0 g0 a ∧ ∃ (j : Nat) (l : List Cu) (v : Value), a.eval (.tmp 10) = .int .i64 j ∧ j ≤ m.cu.l.length ∧ l.map kCu = (m.cu.l.map kCu).take j ∧
    OwnK w0.heap.size w0 wr 64 2 v (l.map Cu.cells) ∧ Cm w0.heap.size g0 w0 wr v (vals.set 10 v) Cu.ok l Ds) (fun a _ => m.cu.l.length - (intOf (a.eval (.tmp 10))).toNat)
    ⟨hf, 0, [], .slice none 0 0, h4, by omega, by simp, OwnK.nil_ _ _ _ _ hcm.below (Nat.le_trans hcm.hlo (Nat.le_of_lt hcm.lt)), by rw [hv]; exact hcm⟩ ?_
  clear hf h4 hcm a w
  rintro a wr ⟨hf, j, l, v, h4, hj, hk, ho, hcm⟩
  rw [fr_of a hf.size hf.defers]
  have h1 : (fun i => a.eval (.tmp i)) 1 = .pointer (some ⟨b0, 0, none⟩) := hf.e1
  have h2 : (fun i => a.eval (.tmp i)) 2 = .pointer (some ⟨b0 + 1, 0, none⟩) := hf.e2
  have h3 : (fun i => a.eval (.tmp i)) 3 = .pointer (some ⟨g0, 0, none⟩) := hf.e3
  replace h4 : (fun i => a.eval (.tmp i)) 10 = .int .i64 j := h4
  generalize (fun i => a.eval (.tmp i)) = f at h1 h2 h3 h4 ⊢
  clear hf a
  have hll : l.length = j := by have := congrArg List.length hk; simp at this; omega
  have hbel := hcm.below
  have hb0 : b0 < wr.heap.size := Nat.lt_of_lt_of_le hC.lt hbel.size
  have hc0 : wr.cell? ⟨b0, 10, none⟩ = some (.slice m.cu.A m.cu.l.length m.cu.c) := (hbel.cell (p := ⟨b0, 10, none⟩) hC.lt).trans (hC.box 10 (by omega))
  by_cases hlt : j < m.cu.l.length
  · obtain ⟨b, o, t, hA, hx, hb, hok, hcell⟩ := hC.ok.cu.at_ hlt
    have q0 : wr.cell? ⟨b, o + j * 2, none⟩ = some (.string t.nm) := (hbel.cell (p := ⟨b, _, none⟩) hb).trans (hcell 0 (by omega))
    have q1 : wr.cell? ⟨b, o + j * 2 + 1, none⟩ = some (t.bs.v) := (hbel.cell (p := ⟨b, _, none⟩) hb).trans (hcell 1 (by omega))
    have hb' := Nat.lt_of_lt_of_le hb hbel.size
    have g1 : wr.cell? ⟨g0, 10, none⟩ = some v := (hcm.cells 10 (by omega)).trans (by have := hcm.n; simp at this; simp [this])
    have hok' := hok.keep hbel.size (Below.kp hbel)
    conv => arg 2; whnf
    unfold fr
    simp only [h1, h2, h3, h4]
    go_wp2_with fail
    refine gen_act 10 208 (v1 := .pointer (some ⟨b0, 0, none⟩)) (v2 := .pointer (some ⟨b0 + 1, 0, none⟩)) (v3 := .pointer (some ⟨g0, 0, none⟩)) (vk := .int .i64 j) _ rfl rfl rfl rfl rfl rfl ?_
    intro a hsz hd e1 e2 e3 e4
    refine region_vals 18 21 (V6 m b0 g0 j t b o wr.heap.size v) (fun i => i + 187) a wr (by kernel_rfl) rfl (by omega) (by kernel_rfl) (by kernel_rfl) (by kernel_rfl) (by rw [hsz]; kernel_rfl) V6.mono ?_ ?_
    · intro i hi a1 w1 hB hV
      have hbw : Below wr.heap.size wr w1 := ((Below.refl wr.heap.size wr).drew).trans hB.below
      have z1 := ev ((hB.same 1 (fun i _ => by omega)).trans e1)
      have z3 := ev ((hB.same 3 (fun i _ => by omega)).trans e3)
      have z4 := ev ((hB.same 10 (fun i _ => by omega)).trans e4)
      have c0 := (hbw.cell (p := ⟨b0, 10, none⟩) hb0).trans hc0
      have c3 := (hbw.cell (p := ⟨g0, 10, none⟩) hcm.lt).trans g1
      have p0 := (hbw.cell (p := ⟨b, _, none⟩) hb').trans q0
      have p1 := (hbw.cell (p := ⟨b, _, none⟩) hb').trans q1
      have hok1 := hok'.keep hbw.size (Below.kp hbw)
      match i, hi with
      | 0, _ =>
        exact op_plain rfl rfl (op_val (.pointer (some ⟨g0, 10, none⟩)) (by go_simp) ⟨_, rfl, Below.refl _ _, rfl⟩)
      | 1, _ =>
        have k0 := ev (show a1.eval (.tmp 187) = _ from hV ⟨0, .data⟩ (.head _) rfl)
        exact op_plain rfl rfl (op_val (v) (by go_simp) ⟨_, rfl, Below.refl _ _, rfl⟩)
      | 2, _ =>
        exact op_plain rfl rfl (op_val (.pointer (some ⟨b0, 10, none⟩)) (by go_simp) ⟨_, rfl, Below.refl _ _, rfl⟩)
      | 3, _ =>
        have k0 := ev (show a1.eval (.tmp 189) = _ from hV ⟨2, .data⟩ (.head _) rfl)
        exact op_plain rfl rfl (op_val (.slice (some ⟨b, o, none⟩) m.cu.l.length m.cu.c) (by go_simp) ⟨_, rfl, Below.refl _ _, rfl⟩)
      | 4, _ =>
        exact op_plain rfl rfl (op_val (.int .i64 j) (by go_simp) ⟨_, rfl, Below.refl _ _, rfl⟩)
      | 5, _ =>
        have k0 := ev (show a1.eval (.tmp 190) = _ from hV ⟨3, .data⟩ (.head _) rfl)
        have k1 := ev (show a1.eval (.tmp 191) = _ from hV ⟨4, .data⟩ (.tail _ (.head _)) rfl)
        exact op_plain rfl rfl (op_val (.pointer (some ⟨b, o + j * 2, none⟩)) (by go_simp) ⟨_, rfl, Below.refl _ _, rfl⟩)
      | 6, _ =>
        have k0 := ev (show a1.eval (.tmp 192) = _ from hV ⟨5, .data⟩ (.head _) rfl)
        exact op_plain rfl rfl (op_val (.pointer (some ⟨b, o + j * 2, none⟩)) (by go_simp) ⟨_, rfl, Below.refl _ _, rfl⟩)
      | 7, _ =>
        have k0 := ev (show a1.eval (.tmp 193) = _ from hV ⟨6, .data⟩ (.head _) rfl)
        exact op_plain rfl rfl (op_val (.string t.nm) (by go_simp) ⟨_, rfl, Below.refl _ _, rfl⟩)
      | 8, _ =>
        exact op_plain rfl rfl (by go_simp; exact ⟨_, rfl, (Below.refl _ _).alloc (Nat.le_refl _) _, ⟨_, rfl⟩⟩)
      | 9, _ =>
        exact op_plain rfl rfl (op_val (.pointer (some ⟨b0, 10, none⟩)) (by go_simp) ⟨_, rfl, Below.refl _ _, rfl⟩)
      | 10, _ =>
        have k0 := ev (show a1.eval (.tmp 196) = _ from hV ⟨9, .data⟩ (.head _) rfl)
        exact op_plain rfl rfl (op_val (.slice (some ⟨b, o, none⟩) m.cu.l.length m.cu.c) (by go_simp) ⟨_, rfl, Below.refl _ _, rfl⟩)
      | 11, _ =>
        exact op_plain rfl rfl (op_val (.int .i64 j) (by go_simp) ⟨_, rfl, Below.refl _ _, rfl⟩)
      | 12, _ =>
        have k0 := ev (show a1.eval (.tmp 197) = _ from hV ⟨10, .data⟩ (.head _) rfl)
        have k1 := ev (show a1.eval (.tmp 198) = _ from hV ⟨11, .data⟩ (.tail _ (.head _)) rfl)
        exact op_plain rfl rfl (op_val (.pointer (some ⟨b, o + j * 2, none⟩)) (by go_simp) ⟨_, rfl, Below.refl _ _, rfl⟩)
      | 13, _ =>
        have k0 := ev (show a1.eval (.tmp 199) = _ from hV ⟨12, .data⟩ (.head _) rfl)
        exact op_plain rfl rfl (op_val (.pointer (some ⟨b, o + j * 2 + 1, none⟩)) (by go_simp) ⟨_, rfl, Below.refl _ _, rfl⟩)
      | 14, _ =>
        have k0 := ev (show a1.eval (.tmp 200) = _ from hV ⟨13, .data⟩ (.head _) rfl)
        exact op_plain rfl rfl (op_val (t.bs.v) (by go_simp) ⟨_, rfl, Below.refl _ _, rfl⟩)
      | 15, _ =>
        have hi1 := hok1.bs
        obtain ⟨p, k0⟩ : ∃ p, a1.eval (.tmp 195) = .slice (some p) 0 0 := hV ⟨8, .data⟩ (.head _) rfl
        have k1 : a1.eval (.tmp 201) = t.bs.v := hV ⟨14, .data⟩ (.tail _ (.head _)) rfl
        refine op_plain rfl rfl (op_cat0 (.tmp 195) (.tmp 201) _ rfl 1 Tryz.underlying59 elem_byte (by decide) p k0 k1 hi1.sl.ones (ones_len _) (by simp) (u8_ones _) (by have := hi1.rb; unfold RB at this; omega) (by have := hi1.le; have := hi1.c; omega) fun A' c' w' y1 y2 y3 y4 => ?_)
        exact ⟨_, rfl, y3, ⟨t.bs.bs, A', c'⟩, rfl, rfl, (hang_bl y4 y1 y2 hi1.rb).lower hbw.size⟩
      | 16, _ =>
        have k0 := ev (show a1.eval (.tmp 194) = _ from hV ⟨7, .data⟩ (.head _) rfl)
        obtain ⟨l1, k1, k1', k1''⟩ : ∃ l : BL, a1.eval (.tmp 202) = l.v ∧ l.bs = t.bs.bs ∧ Hang (Win wr.heap.size w1) w1 (fun w B => l.ok w B) := hV ⟨15, .data⟩ (.tail _ (.head _)) rfl
        have k1 := ev k1
        exact op_plain rfl rfl (op_val (.agg #[.string t.nm, l1.v]) (by go_simp) ⟨_, rfl, Below.refl _ _, ⟨t.nm, l1⟩, rfl, by simp [kCu, k1'], k1''.imp fun _ _ h => ⟨hok'.nm, h⟩⟩)
      | 17, _ =>
        obtain ⟨x, k0, k0', k0''⟩ : ∃ x : Cu, a1.eval (.tmp 203) = .agg #[.string x.nm, x.bs.v] ∧ kCu x = kCu t ∧ Hang (Win wr.heap.size w1) w1 (fun w B => x.ok w B) := hV ⟨16, .data⟩ (.head _) rfl
        have k0 := ev k0
        exact op_plain rfl rfl (by go_simp; exact ⟨_, rfl, (Below.refl _ _).alloc (Nat.le_refl _) _, x, w1.heap.size, rfl, k0', k0''.later ((Below.refl _ _).alloc (Nat.le_refl _) _), by simp, fun k u hk => by rw [World.cell?_alloc_at _ _ _ _ rfl]; simpa [Cu.cells, In.cells, insC] using hk⟩)
      | n + 18, h => exact absurd h (by omega)
    · intro a1 w1 hB hV
      have hbw : Below wr.heap.size wr w1 := ((Below.refl wr.heap.size wr).drew).trans hB.below
      have x1 := (hB.same 1 (fun i _ => by omega)).trans e1
      have x2 := (hB.same 2 (fun i _ => by omega)).trans e2
      have x3 := (hB.same 3 (fun i _ => by omega)).trans e3
      have x4 := (hB.same 10 (fun i _ => by omega)).trans e4
      have k1 : a1.eval (.tmp 188) = v := hV 1 (by omega)
      obtain ⟨x, n, k2, kx, kh, kn, kc⟩ : ∃ (x : Cu) (n : Nat), a1.eval (.tmp 204) = .slice (some ⟨n, 0, none⟩) 1 1 ∧ kCu x = kCu t ∧ Hang (Win wr.heap.size w1) w1 (fun w B => x.ok w B) ∧ n < w1.heap.size ∧ ∀ k u, x.cells[k]? = some u → w1.cell? ⟨n, k, none⟩ = some u := hV 17 (by omega)
      have hs1 := Lib.hid (hB.size.trans hsz)
      have hd1 := hB.defers.trans hd
      clear hV
      refine ready_one (i := 18) (by kernel_rfl) rfl rfl ?_
      refine op_push (.tmp 188) (.tmp 204) _ rfl 40 Tryz.underlying30 elem_cu (by decide) x.cells 1 n k1 (ho.later hbw) k2 rfl kc x.one (by simp; omega) (by simp; unfold maxLen; omega) fun v' w2 ho2 hk2 hz2 => ?_
      obtain ⟨hcm3, ho3⟩ := hcm.push ho hbw kh (by simpa using ho2) hk2 hz2 10 (by omega)
      have gB := (hk2 g0 (Nat.lt_of_lt_of_le hcm.lt hbw.size) hcm.own).1
      have g2 : w2.cell? ⟨g0, 10, none⟩ = some v := (World.cell?_of_block gB).trans ((hbw.cell (p := ⟨g0, 10, none⟩) hcm.lt).trans g1)
      have g3 : w2.frozen? ⟨g0, 10, none⟩ = false := (frozen_of_block gB).trans ((hbw.frozen (p := ⟨g0, 10, none⟩) hcm.lt).trans (hcm.frz 10))
      clear hk2 hz2 gB kh kc kn k2 k1 ho2
      change wpAnyH _ _ _ _ _ _ _ (a1.put (some 205) v') w2
      generalize ha2 : a1.put _ v' = a2
      have s2 : Hid (a2.tmps.size = 208) := Lib.hid (by rw [← ha2]; simp only [size_put, hs1.out])
      have d2 : a2.defers = [] := by rw [← ha2, defers_put, hd1]
      have u57 : a2.eval (.tmp 205) = v' := by rw [← ha2]; simp [eval_put, hs1.out]
      have u1 : a2.eval (.tmp 1) = .pointer (some ⟨b0, 0, none⟩) := by rw [← ha2]; simp only [eval_put]; exact x1
      have u2 : a2.eval (.tmp 2) = .pointer (some ⟨b0 + 1, 0, none⟩) := by rw [← ha2]; simp only [eval_put]; exact x2
      have u3 : a2.eval (.tmp 3) = .pointer (some ⟨g0, 0, none⟩) := by rw [← ha2]; simp only [eval_put]; exact x3
      have u4 : a2.eval (.tmp 10) = .int .i64 j := by rw [← ha2]; simp only [eval_put]; exact x4
      clear ha2
      refine ready_one (i := 19) (by kernel_rfl) rfl rfl ?_
      have z3 := ev u3
      refine op_val (.pointer (some ⟨g0, 10, none⟩)) (by go_simp) ?_
      change wpAnyH _ _ _ _ _ _ _ (a2.put (some 206) (.pointer (some ⟨g0, 10, none⟩))) w2
      generalize ha3 : a2.put _ _ = a3
      have s3 : Hid (a3.tmps.size = 208) := Lib.hid (by rw [← ha3]; simp only [size_put, s2.out])
      have d3 : a3.defers = [] := by rw [← ha3, defers_put, d2]
      have t58 : a3.eval (.tmp 206) = .pointer (some ⟨g0, 10, none⟩) := by rw [← ha3]; simp [eval_put, s2.out]
      have t57 : a3.eval (.tmp 205) = v' := by rw [← ha3]; simp only [eval_put]; exact u57
      have t1 : a3.eval (.tmp 1) = .pointer (some ⟨b0, 0, none⟩) := by rw [← ha3]; simp only [eval_put]; exact u1
      have t2 : a3.eval (.tmp 2) = .pointer (some ⟨b0 + 1, 0, none⟩) := by rw [← ha3]; simp only [eval_put]; exact u2
      have t3 : a3.eval (.tmp 3) = .pointer (some ⟨g0, 0, none⟩) := by rw [← ha3]; simp only [eval_put]; exact u3
      have t4 : a3.eval (.tmp 10) = .int .i64 j := by rw [← ha3]; simp only [eval_put]; exact u4
      clear ha3
      refine ready_one (i := 20) (by kernel_rfl) rfl rfl ?_
      have z57 := ev t57
      have z58 := ev t58
      obtain ⟨A', c', N', hv'⟩ : ∃ A' c' N', v' = .slice A' N' c' := by obtain ⟨A', c', hv', -⟩ := ho3.form; exact ⟨A', c', _, hv'⟩
      subst hv'
      go_simp
      refine ready_none (by kernel_rfl) ?_
      change Exit.inBlock _ _ _ a3 _
      rw [fr_of a3 s3.out d3]
      have F1 : (fun i => a3.eval (.tmp i)) 1 = .pointer (some ⟨b0, 0, none⟩) := t1
      have F2 : (fun i => a3.eval (.tmp i)) 2 = .pointer (some ⟨b0 + 1, 0, none⟩) := t2
      have F3 : (fun i => a3.eval (.tmp i)) 3 = .pointer (some ⟨g0, 0, none⟩) := t3
      have F4 : (fun i => a3.eval (.tmp i)) 10 = .int .i64 j := t4
      generalize (fun i => a3.eval (.tmp i)) = f' at F1 F2 F3 F4 ⊢
      clear t1 t2 t3 t4 t57 t58 z57 z58 s3 d3 a3 z3 u1 u2 u3 u4 u57 s2 d2 a2 x1 x2 x3 x4 hs1 hd1 hB a1 e1 e2 e3 e4 hsz hd a hexit
      unfold fr
      simp only [F1, F2, F3, F4]
      go_wp2_with fail
      refine ⟨⟨⟨rfl, rfl, rfl, rfl, rfl⟩, j + 1, l ++ [x], .slice A' N' c', by show Value.int .i64 _ = _; go_num, by omega, ?_, by rw [List.map_append]; exact ho3, ?_⟩, ?_⟩
      · rw [List.map_append, hk, List.take_add_one, List.getElem?_map, hx]
        simp [kx]
      · rw [List.set_set] at hcm3
        exact hcm3
      · show m.cu.l.length - (intOf (.int .i64 _)).toNat < m.cu.l.length - (intOf (.int .i64 _)).toNat
        simp [intOf]
        omega
  · have hjl : j = m.cu.l.length := by omega
    subst hjl
    rw [List.take_of_length_le (by simp)] at hk
    obtain ⟨s, hs1, hs2, hs3⟩ := hcm.fin (y := 40) (cells := Cu.cells) ho (by omega) (by unfold RB; omega)
    subst hs2
    have HX := Lib.hid (fun a (hf : Fm b0 g0 a) => hexit a wr s hf (by rw [hs1, hk]) hs3)
    clear hexit
    conv => arg 2; whnf
    unfold fr
    simp only [h1, h2, h3, h4]
    go_wp2_with fail
    exact HX.out _ ⟨rfl, rfl, rfl, rfl, rfl⟩
end Go.Proofs.YtmdgemdollfnhaaGreatDoor
