/- A loop of the reference's CopyModule: the types. -/
import Derived.Test.YtmdgemdollfnhaaDoorTreeQ2
import Derived.Test.YtmdgemdollfnhaaDoorTreeS4
namespace Go.Proofs.YtmdgemdollfnhaaDoor
open Go.RowKit Trx

/-- what each operation of the region leaves in its slot. -/
def V1 (m : Mo) (b0 g0 j : Nat) (t : Ty) (b o lo1 : Nat) (vo : Value) : Nat → Value → World → Prop
  | 0, v, _ => v = .pointer (some ⟨g0, 0, none⟩)
  | 1, v, _ => v = vo
  | 2, v, _ => ∃ p, v = .slice (some p) 0 0
  | 3, v, _ => v = .pointer (some ⟨b0, 0, none⟩)
  | 4, v, _ => v = .slice (some ⟨b, o, none⟩) m.ty.l.length m.ty.c
  | 5, v, _ => v = .int .i64 j
  | 6, v, _ => v = .pointer (some ⟨b, o + j * 2, none⟩)
  | 7, v, _ => v = .pointer (some ⟨b, o + j * 2, none⟩)
  | 8, v, _ => v = t.p.v
  | 9, v, w => ∃ l : IL, v = l.v ∧ l.zs = t.p.zs ∧ Hang (Win lo1 w) w (fun w B => l.ok w B)
  | 10, v, _ => ∃ p, v = .slice (some p) 0 0
  | 11, v, _ => v = .pointer (some ⟨b0, 0, none⟩)
  | 12, v, _ => v = .slice (some ⟨b, o, none⟩) m.ty.l.length m.ty.c
  | 13, v, _ => v = .int .i64 j
  | 14, v, _ => v = .pointer (some ⟨b, o + j * 2, none⟩)
  | 15, v, _ => v = .pointer (some ⟨b, o + j * 2 + 1, none⟩)
  | 16, v, _ => v = t.r.v
  | 17, v, w => ∃ l : IL, v = l.v ∧ l.zs = t.r.zs ∧ Hang (Win lo1 w) w (fun w B => l.ok w B)
  | 18, v, w => ∃ x : Ty, v = .agg #[x.p.v, x.r.v] ∧ kTy x = kTy t ∧ Hang (Win lo1 w) w (fun w B => x.ok w B)
  | 19, v, w => ∃ (x : Ty) (n : Nat), v = .slice (some ⟨n, 0, none⟩) 1 1 ∧ kTy x = kTy t ∧ Hang (Win lo1 w) w (fun w B => x.ok w B) ∧ n < w.heap.size ∧ ∀ k u, x.cells[k]? = some u → w.cell? ⟨n, k, none⟩ = some u
  | _, _, _ => True
theorem V1.mono {m : Mo} {b0 g0 j : Nat} {t : Ty} {b o lo1 : Nat} {vo : Value} (i : Nat) (v : Value) (w w' : World) (h : V1 m b0 g0 j t b o lo1 vo i v w) (hb : Below w.heap.size w w') : V1 m b0 g0 j t b o lo1 vo i v w' := by
  unfold V1 at *
  split at h
  all_goals try exact h
  · obtain ⟨l, h1, h2, h3⟩ := h; exact ⟨l, h1, h2, h3.later hb⟩
  · obtain ⟨l, h1, h2, h3⟩ := h; exact ⟨l, h1, h2, h3.later hb⟩
  · obtain ⟨l, h1, h2, h3⟩ := h; exact ⟨l, h1, h2, h3.later hb⟩
  · obtain ⟨l, n, h1, h2, h3, h4, h5⟩ := h; exact ⟨l, n, h1, h2, h3.later hb, Nat.lt_of_lt_of_le h4 hb.size, fun k u hk => (hb.cell (p := ⟨n, k, none⟩) h4).trans (h5 k u hk)⟩
theorem elem_ty : ElemK Tryd.prog 43 2 48 := ElemK.mk_ (z := .agg #[.slice none 0 0, .slice none 0 0]) (by kernel_rfl) rfl
theorem Ty.one (t : Ty) : ∀ u ∈ t.cells, u.oneCell' = true := by
  intro u hu
  simp [Ty.cells, In.cells, insC] at hu
  rcases hu with rfl | rfl <;> rfl

set_option maxHeartbeats 8000000 in
set_option maxRecDepth 100000 in
theorem loop_ty (m : Mo) (w0 : World) (b0 g0 : Nat) (hC : CmC m w0 b0) (vals : List Value) (hv : vals.set 0 (.slice none 0 0) = vals) (Ds : List (World → Nat → Prop)) (Q0 : Exit → Act → World → Prop)
    (hexit : ∀ (a : Act) (wr : World) (s : SL Ty), Fm b0 g0 a → s.l.map kTy = m.ty.l.map kTy →
      (∀ {β : Type} (q' : World → Nat → β → Prop), Cm w0.heap.size g0 w0 wr (.slice none 0 0) (vals.set 0 s.v) q' [] ((fun w B => s.ok Ty.cells Ty.ok 2 48 w B) :: Ds)) → Q0 (.exit 0) a wr)
    (a : Act) (w : World) (hf : Fm b0 g0 a) (h4 : a.eval (.tmp 4) = .int .i64 0) (hcm : Cm w0.heap.size g0 w0 w (.slice none 0 0) vals Ty.ok [] Ds) :
    (Code.loop (cmBody 0)).wp Tryd.prog Q0 a w := by
  have hle : m.ty.l.length * 48 ≤ 140737488351232 := by have := hC.ok.ty.rb; unfold RB at this; exact this
  refine wp_loop (fun a wr => Fm b0 g0 a ∧ ∃ (j : Nat) (l : List Ty) (v : Value), a.eval (.tmp 4) = .int .i64 j ∧ j ≤ m.ty.l.length ∧ l.map kTy = (m.ty.l.map kTy).take j ∧
    OwnK w0.heap.size w0 wr 43 2 v (l.map Ty.cells) ∧ Cm w0.heap.size g0 w0 wr v (vals.set 0 v) Ty.ok l Ds) (fun a _ => m.ty.l.length - (intOf (a.eval (.tmp 4))).toNat)
    ⟨hf, 0, [], .slice none 0 0, h4, by omega, by simp, OwnK.nil_ _ _ _ _ hcm.below (Nat.le_trans hcm.hlo (Nat.le_of_lt hcm.lt)), by rw [hv]; exact hcm⟩ ?_
  clear hf h4 hcm a w
  rintro a wr ⟨hf, j, l, v, h4, hj, hk, ho, hcm⟩
  rw [fr_of a hf.size hf.defers]
  have h1 : (fun i => a.eval (.tmp i)) 1 = .pointer (some ⟨b0, 0, none⟩) := hf.e1
  have h2 : (fun i => a.eval (.tmp i)) 2 = .pointer (some ⟨b0 + 1, 0, none⟩) := hf.e2
  have h3 : (fun i => a.eval (.tmp i)) 3 = .pointer (some ⟨g0, 0, none⟩) := hf.e3
  replace h4 : (fun i => a.eval (.tmp i)) 4 = .int .i64 j := h4
  generalize (fun i => a.eval (.tmp i)) = f at h1 h2 h3 h4 ⊢
  clear hf a
  have hll : l.length = j := by have := congrArg List.length hk; simp at this; omega
  have hbel := hcm.below
  have hb0 : b0 < wr.heap.size := Nat.lt_of_lt_of_le hC.lt hbel.size
  have hc0 : wr.cell? ⟨b0, 0, none⟩ = some (.slice m.ty.A m.ty.l.length m.ty.c) := (hbel.cell (p := ⟨b0, 0, none⟩) hC.lt).trans (hC.box 0 (by omega))
  by_cases hlt : j < m.ty.l.length
  · obtain ⟨b, o, t, hA, hx, hb, hok, hcell⟩ := hC.ok.ty.at_ hlt
    have q0 : wr.cell? ⟨b, o + j * 2, none⟩ = some (t.p.v) := (hbel.cell (p := ⟨b, _, none⟩) hb).trans (hcell 0 (by omega))
    have q1 : wr.cell? ⟨b, o + j * 2 + 1, none⟩ = some (t.r.v) := (hbel.cell (p := ⟨b, _, none⟩) hb).trans (hcell 1 (by omega))
    have hb' := Nat.lt_of_lt_of_le hb hbel.size
    have g1 : wr.cell? ⟨g0, 0, none⟩ = some v := (hcm.cells 0 (by omega)).trans (by have := hcm.n; simp at this; simp [this])
    have hok' := hok.keep hbel.size (Below.kp hbel)
    conv => arg 2; whnf
    unfold fr
    simp only [h1, h2, h3, h4]
    go_wp2_with fail
    refine gen_act 4 208 (v1 := .pointer (some ⟨b0, 0, none⟩)) (v2 := .pointer (some ⟨b0 + 1, 0, none⟩)) (v3 := .pointer (some ⟨g0, 0, none⟩)) (vk := .int .i64 j) _ rfl rfl rfl rfl rfl rfl ?_
    intro a hsz hd e1 e2 e3 e4
    refine region_vals 20 23 (V1 m b0 g0 j t b o wr.heap.size v) (fun i => i + 37) a wr (by kernel_rfl) rfl (by omega) (by kernel_rfl) (by kernel_rfl) (by kernel_rfl) (by rw [hsz]; kernel_rfl) V1.mono ?_ ?_
    · intro i hi a1 w1 hB hV
      have hbw : Below wr.heap.size wr w1 := ((Below.refl wr.heap.size wr).drew).trans hB.below
      have z1 := ev ((hB.same 1 (fun i _ => by omega)).trans e1)
      have z3 := ev ((hB.same 3 (fun i _ => by omega)).trans e3)
      have z4 := ev ((hB.same 4 (fun i _ => by omega)).trans e4)
      have c0 := (hbw.cell (p := ⟨b0, 0, none⟩) hb0).trans hc0
      have c3 := (hbw.cell (p := ⟨g0, 0, none⟩) hcm.lt).trans g1
      have p0 := (hbw.cell (p := ⟨b, _, none⟩) hb').trans q0
      have p1 := (hbw.cell (p := ⟨b, _, none⟩) hb').trans q1
      have hok1 := hok'.keep hbw.size (Below.kp hbw)
      match i, hi with
      | 0, _ =>
        exact op_plain rfl rfl (op_val (.pointer (some ⟨g0, 0, none⟩)) (by go_simp) ⟨_, rfl, Below.refl _ _, rfl⟩)
      | 1, _ =>
        have k0 := ev (show a1.eval (.tmp 37) = _ from hV ⟨0, .data⟩ (.head _) rfl)
        exact op_plain rfl rfl (op_val (v) (by go_simp) ⟨_, rfl, Below.refl _ _, rfl⟩)
      | 2, _ =>
        exact op_plain rfl rfl (by go_simp; exact ⟨_, rfl, (Below.refl _ _).alloc (Nat.le_refl _) _, ⟨_, rfl⟩⟩)
      | 3, _ =>
        exact op_plain rfl rfl (op_val (.pointer (some ⟨b0, 0, none⟩)) (by go_simp) ⟨_, rfl, Below.refl _ _, rfl⟩)
      | 4, _ =>
        have k0 := ev (show a1.eval (.tmp 40) = _ from hV ⟨3, .data⟩ (.head _) rfl)
        exact op_plain rfl rfl (op_val (.slice (some ⟨b, o, none⟩) m.ty.l.length m.ty.c) (by go_simp) ⟨_, rfl, Below.refl _ _, rfl⟩)
      | 5, _ =>
        exact op_plain rfl rfl (op_val (.int .i64 j) (by go_simp) ⟨_, rfl, Below.refl _ _, rfl⟩)
      | 6, _ =>
        have k0 := ev (show a1.eval (.tmp 41) = _ from hV ⟨4, .data⟩ (.head _) rfl)
        have k1 := ev (show a1.eval (.tmp 42) = _ from hV ⟨5, .data⟩ (.tail _ (.head _)) rfl)
        exact op_plain rfl rfl (op_val (.pointer (some ⟨b, o + j * 2, none⟩)) (by go_simp) ⟨_, rfl, Below.refl _ _, rfl⟩)
      | 7, _ =>
        have k0 := ev (show a1.eval (.tmp 43) = _ from hV ⟨6, .data⟩ (.head _) rfl)
        exact op_plain rfl rfl (op_val (.pointer (some ⟨b, o + j * 2, none⟩)) (by go_simp) ⟨_, rfl, Below.refl _ _, rfl⟩)
      | 8, _ =>
        have k0 := ev (show a1.eval (.tmp 44) = _ from hV ⟨7, .data⟩ (.head _) rfl)
        exact op_plain rfl rfl (op_val (t.p.v) (by go_simp) ⟨_, rfl, Below.refl _ _, rfl⟩)
      | 9, _ =>
        have hi1 := hok1.p
        obtain ⟨p, k0⟩ : ∃ p, a1.eval (.tmp 39) = .slice (some p) 0 0 := hV ⟨2, .data⟩ (.head _) rfl
        have k1 : a1.eval (.tmp 45) = t.p.v := hV ⟨8, .data⟩ (.tail _ (.head _)) rfl
        refine op_plain rfl rfl (op_cat0 (.tmp 39) (.tmp 45) _ rfl 8 Tryd.underlying40 elem_int (by decide) p k0 k1 hi1.sl.ones (ones_len _) (by simp) (n64_one _) (by have := hi1.rb; unfold RB at this; omega) (by have := hi1.le; have := hi1.c; omega) fun A' c' w' y1 y2 y3 y4 => ?_)
        exact ⟨_, rfl, y3, ⟨t.p.zs, A', c'⟩, rfl, rfl, (hang_il y4 y1 y2 hi1.rb hi1.inI).lower hbw.size⟩
      | 10, _ =>
        exact op_plain rfl rfl (by go_simp; exact ⟨_, rfl, (Below.refl _ _).alloc (Nat.le_refl _) _, ⟨_, rfl⟩⟩)
      | 11, _ =>
        exact op_plain rfl rfl (op_val (.pointer (some ⟨b0, 0, none⟩)) (by go_simp) ⟨_, rfl, Below.refl _ _, rfl⟩)
      | 12, _ =>
        have k0 := ev (show a1.eval (.tmp 48) = _ from hV ⟨11, .data⟩ (.head _) rfl)
        exact op_plain rfl rfl (op_val (.slice (some ⟨b, o, none⟩) m.ty.l.length m.ty.c) (by go_simp) ⟨_, rfl, Below.refl _ _, rfl⟩)
      | 13, _ =>
        exact op_plain rfl rfl (op_val (.int .i64 j) (by go_simp) ⟨_, rfl, Below.refl _ _, rfl⟩)
      | 14, _ =>
        have k0 := ev (show a1.eval (.tmp 49) = _ from hV ⟨12, .data⟩ (.head _) rfl)
        have k1 := ev (show a1.eval (.tmp 50) = _ from hV ⟨13, .data⟩ (.tail _ (.head _)) rfl)
        exact op_plain rfl rfl (op_val (.pointer (some ⟨b, o + j * 2, none⟩)) (by go_simp) ⟨_, rfl, Below.refl _ _, rfl⟩)
      | 15, _ =>
        have k0 := ev (show a1.eval (.tmp 51) = _ from hV ⟨14, .data⟩ (.head _) rfl)
        exact op_plain rfl rfl (op_val (.pointer (some ⟨b, o + j * 2 + 1, none⟩)) (by go_simp) ⟨_, rfl, Below.refl _ _, rfl⟩)
      | 16, _ =>
        have k0 := ev (show a1.eval (.tmp 52) = _ from hV ⟨15, .data⟩ (.head _) rfl)
        exact op_plain rfl rfl (op_val (t.r.v) (by go_simp) ⟨_, rfl, Below.refl _ _, rfl⟩)
      | 17, _ =>
        have hi1 := hok1.r
        obtain ⟨p, k0⟩ : ∃ p, a1.eval (.tmp 47) = .slice (some p) 0 0 := hV ⟨10, .data⟩ (.head _) rfl
        have k1 : a1.eval (.tmp 53) = t.r.v := hV ⟨16, .data⟩ (.tail _ (.head _)) rfl
        refine op_plain rfl rfl (op_cat0 (.tmp 47) (.tmp 53) _ rfl 8 Tryd.underlying40 elem_int (by decide) p k0 k1 hi1.sl.ones (ones_len _) (by simp) (n64_one _) (by have := hi1.rb; unfold RB at this; omega) (by have := hi1.le; have := hi1.c; omega) fun A' c' w' y1 y2 y3 y4 => ?_)
        exact ⟨_, rfl, y3, ⟨t.r.zs, A', c'⟩, rfl, rfl, (hang_il y4 y1 y2 hi1.rb hi1.inI).lower hbw.size⟩
      | 18, _ =>
        obtain ⟨l0, k0, k0', k0''⟩ : ∃ l : IL, a1.eval (.tmp 46) = l.v ∧ l.zs = t.p.zs ∧ Hang (Win wr.heap.size w1) w1 (fun w B => l.ok w B) := hV ⟨9, .data⟩ (.head _) rfl
        have k0 := ev k0
        obtain ⟨l1, k1, k1', k1''⟩ : ∃ l : IL, a1.eval (.tmp 54) = l.v ∧ l.zs = t.r.zs ∧ Hang (Win wr.heap.size w1) w1 (fun w B => l.ok w B) := hV ⟨17, .data⟩ (.tail _ (.head _)) rfl
        have k1 := ev k1
        exact op_plain rfl rfl (op_val (.agg #[l0.v, l1.v]) (by go_simp) ⟨_, rfl, Below.refl _ _, ⟨l0, l1⟩, rfl, by simp [kTy, k0', k1'], (k0''.and k1'').imp fun _ _ h => ⟨h.1, h.2⟩⟩)
      | 19, _ =>
        obtain ⟨x, k0, k0', k0''⟩ : ∃ x : Ty, a1.eval (.tmp 55) = .agg #[x.p.v, x.r.v] ∧ kTy x = kTy t ∧ Hang (Win wr.heap.size w1) w1 (fun w B => x.ok w B) := hV ⟨18, .data⟩ (.head _) rfl
        have k0 := ev k0
        exact op_plain rfl rfl (by go_simp; exact ⟨_, rfl, (Below.refl _ _).alloc (Nat.le_refl _) _, x, w1.heap.size, rfl, k0', k0''.later ((Below.refl _ _).alloc (Nat.le_refl _) _), by simp, fun k u hk => by rw [World.cell?_alloc_at _ _ _ _ rfl]; simpa [Ty.cells, In.cells, insC] using hk⟩)
      | n + 20, h => exact absurd h (by omega)
    · intro a1 w1 hB hV
      have hbw : Below wr.heap.size wr w1 := ((Below.refl wr.heap.size wr).drew).trans hB.below
      have x1 := (hB.same 1 (fun i _ => by omega)).trans e1
      have x2 := (hB.same 2 (fun i _ => by omega)).trans e2
      have x3 := (hB.same 3 (fun i _ => by omega)).trans e3
      have x4 := (hB.same 4 (fun i _ => by omega)).trans e4
      have k1 : a1.eval (.tmp 38) = v := hV 1 (by omega)
      obtain ⟨x, n, k2, kx, kh, kn, kc⟩ : ∃ (x : Ty) (n : Nat), a1.eval (.tmp 56) = .slice (some ⟨n, 0, none⟩) 1 1 ∧ kTy x = kTy t ∧ Hang (Win wr.heap.size w1) w1 (fun w B => x.ok w B) ∧ n < w1.heap.size ∧ ∀ k u, x.cells[k]? = some u → w1.cell? ⟨n, k, none⟩ = some u := hV 19 (by omega)
      have hs1 := Lib.hid (hB.size.trans hsz)
      have hd1 := hB.defers.trans hd
      clear hV
      refine ready_one (i := 20) (by kernel_rfl) rfl rfl ?_
      refine op_push (.tmp 38) (.tmp 56) _ rfl 48 Tryd.underlying27 elem_ty (by decide) x.cells 1 n k1 (ho.later hbw) k2 rfl kc x.one (by simp; omega) (by simp; unfold maxLen; omega) fun v' w2 ho2 hk2 hz2 => ?_
      obtain ⟨hcm3, ho3⟩ := hcm.push ho hbw kh (by simpa using ho2) hk2 hz2 0 (by omega)
      have gB := (hk2 g0 (Nat.lt_of_lt_of_le hcm.lt hbw.size) hcm.own).1
      have g2 : w2.cell? ⟨g0, 0, none⟩ = some v := (World.cell?_of_block gB).trans ((hbw.cell (p := ⟨g0, 0, none⟩) hcm.lt).trans g1)
      have g3 : w2.frozen? ⟨g0, 0, none⟩ = false := (frozen_of_block gB).trans ((hbw.frozen (p := ⟨g0, 0, none⟩) hcm.lt).trans (hcm.frz 0))
      clear hk2 hz2 gB kh kc kn k2 k1 ho2
      change wpAnyH _ _ _ _ _ _ _ (a1.put (some 57) v') w2
      generalize ha2 : a1.put _ v' = a2
      have s2 : Hid (a2.tmps.size = 208) := Lib.hid (by rw [← ha2]; simp only [size_put, hs1.out])
      have d2 : a2.defers = [] := by rw [← ha2, defers_put, hd1]
      have u57 : a2.eval (.tmp 57) = v' := by rw [← ha2]; simp [eval_put, hs1.out]
      have u1 : a2.eval (.tmp 1) = .pointer (some ⟨b0, 0, none⟩) := by rw [← ha2]; simp only [eval_put]; exact x1
      have u2 : a2.eval (.tmp 2) = .pointer (some ⟨b0 + 1, 0, none⟩) := by rw [← ha2]; simp only [eval_put]; exact x2
      have u3 : a2.eval (.tmp 3) = .pointer (some ⟨g0, 0, none⟩) := by rw [← ha2]; simp only [eval_put]; exact x3
      have u4 : a2.eval (.tmp 4) = .int .i64 j := by rw [← ha2]; simp only [eval_put]; exact x4
      clear ha2
      refine ready_one (i := 21) (by kernel_rfl) rfl rfl ?_
      have z3 := ev u3
      refine op_val (.pointer (some ⟨g0, 0, none⟩)) (by go_simp) ?_
      change wpAnyH _ _ _ _ _ _ _ (a2.put (some 58) (.pointer (some ⟨g0, 0, none⟩))) w2
      generalize ha3 : a2.put _ _ = a3
      have s3 : Hid (a3.tmps.size = 208) := Lib.hid (by rw [← ha3]; simp only [size_put, s2.out])
      have d3 : a3.defers = [] := by rw [← ha3, defers_put, d2]
      have t58 : a3.eval (.tmp 58) = .pointer (some ⟨g0, 0, none⟩) := by rw [← ha3]; simp [eval_put, s2.out]
      have t57 : a3.eval (.tmp 57) = v' := by rw [← ha3]; simp only [eval_put]; exact u57
      have t1 : a3.eval (.tmp 1) = .pointer (some ⟨b0, 0, none⟩) := by rw [← ha3]; simp only [eval_put]; exact u1
      have t2 : a3.eval (.tmp 2) = .pointer (some ⟨b0 + 1, 0, none⟩) := by rw [← ha3]; simp only [eval_put]; exact u2
      have t3 : a3.eval (.tmp 3) = .pointer (some ⟨g0, 0, none⟩) := by rw [← ha3]; simp only [eval_put]; exact u3
      have t4 : a3.eval (.tmp 4) = .int .i64 j := by rw [← ha3]; simp only [eval_put]; exact u4
      clear ha3
      refine ready_one (i := 22) (by kernel_rfl) rfl rfl ?_
      have z57 := ev t57
      have z58 := ev t58
      obtain ⟨A', c', N', hv'⟩ : ∃ A' c' N', v' = .slice A' N' c' := by obtain ⟨A', c', hv', -⟩ := ho3.form; exact ⟨A', c', _, hv'⟩
      subst hv'
      go_simp
      refine ready_none (by kernel_rfl) ?_
      change Exit.inBlock _ _ _ a3 _
      rw [fr_of a3 s3.out d3]
      have F1 : (fun i => a3.eval (.tmp i)) 1 = .pointer (some ⟨b0, 0, none⟩) := t1
      have F2 : (fun i => a3.eval (.tmp i)) 2 = .pointer (some ⟨b0 + 1, 0, none⟩) := t2
      have F3 : (fun i => a3.eval (.tmp i)) 3 = .pointer (some ⟨g0, 0, none⟩) := t3
      have F4 : (fun i => a3.eval (.tmp i)) 4 = .int .i64 j := t4
      generalize (fun i => a3.eval (.tmp i)) = f' at F1 F2 F3 F4 ⊢
      clear t1 t2 t3 t4 t57 t58 z57 z58 s3 d3 a3 z3 u1 u2 u3 u4 u57 s2 d2 a2 x1 x2 x3 x4 hs1 hd1 hB a1 e1 e2 e3 e4 hsz hd a hexit
      unfold fr
      simp only [F1, F2, F3, F4]
      go_wp2_with fail
      refine ⟨⟨⟨rfl, rfl, rfl, rfl, rfl⟩, j + 1, l ++ [x], .slice A' N' c', by show Value.int .i64 _ = _; go_num, by omega, ?_, by rw [List.map_append]; exact ho3, ?_⟩, ?_⟩
      · rw [List.map_append, hk, List.take_add_one, List.getElem?_map, hx]
        simp [kx]
      · rw [List.set_set] at hcm3
        exact hcm3
      · show m.ty.l.length - (intOf (.int .i64 _)).toNat < m.ty.l.length - (intOf (.int .i64 _)).toNat
        simp [intOf]
        omega
  · have hjl : j = m.ty.l.length := by omega
    subst hjl
    rw [List.take_of_length_le (by simp)] at hk
    obtain ⟨s, hs1, hs2, hs3⟩ := hcm.fin (y := 48) (cells := Ty.cells) ho (by omega) (by unfold RB; omega)
    subst hs2
    have HX := Lib.hid (fun a (hf : Fm b0 g0 a) => hexit a wr s hf (by rw [hs1, hk]) hs3)
    clear hexit
    conv => arg 2; whnf
    unfold fr
    simp only [h1, h2, h3, h4]
    go_wp2_with fail
    exact HX.out _ ⟨rfl, rfl, rfl, rfl, rfl⟩
end Go.Proofs.YtmdgemdollfnhaaDoor
