/- A loop of the reference's Same, of two modules that say the same. -/
import Derived.Test.YtmdgemdollfnhaaGreatDoorTreeR
namespace Go.Proofs.YtmdgemdollfnhaaGreatDoor
open Go.RowKit Trx

/-- what each operation of the region leaves in its slot. -/
def W9 (m n : Mo) (b1 j : Nat) (x y : Da) (p1 o1 p2 o2 : Nat) : Nat → Value → World → Prop
  | 0, v, _ => v = .bool true
  | 1, v, _ => v = .bool true
  | 2, v, _ => v = .pointer (some ⟨b1, 9, none⟩)
  | 3, v, _ => v = .slice (some ⟨p1, o1, none⟩) m.da.l.length m.da.c
  | 4, v, _ => v = .int .i64 j
  | 5, v, _ => v = .pointer (some ⟨p1, o1 + j * 10, none⟩)
  | 6, v, _ => v = .pointer (some ⟨p1, o1 + j * 10, none⟩)
  | 7, v, _ => v = inA x.i
  | 8, v, w => ∃ A, v = .slice A 1 1 ∧ RdS w w.heap.size A (ofN [x.i.n])
  | 9, v, _ => v = .pointer (some ⟨b1 + 1, 9, none⟩)
  | 10, v, _ => v = .slice (some ⟨p2, o2, none⟩) n.da.l.length n.da.c
  | 11, v, _ => v = .int .i64 j
  | 12, v, _ => v = .pointer (some ⟨p2, o2 + j * 10, none⟩)
  | 13, v, _ => v = .pointer (some ⟨p2, o2 + j * 10, none⟩)
  | 14, v, _ => v = inA y.i
  | 15, v, w => ∃ A, v = .slice A 1 1 ∧ RdS w w.heap.size A (ofN [y.i.n])
  | 16, v, _ => v = .bool true
  | 17, v, _ => v = .bool true
  | 18, v, _ => v = .bool true
  | 19, v, _ => v = .pointer (some ⟨b1, 9, none⟩)
  | 20, v, _ => v = .slice (some ⟨p1, o1, none⟩) m.da.l.length m.da.c
  | 21, v, _ => v = .int .i64 j
  | 22, v, _ => v = .pointer (some ⟨p1, o1 + j * 10, none⟩)
  | 23, v, _ => v = .pointer (some ⟨p1, o1 + j * 10 + 9, none⟩)
  | 24, v, _ => v = .slice x.bs.A x.bs.bs.length x.bs.c
  | 25, v, _ => v = .string ⟨x.bs.bs.toArray⟩
  | 26, v, _ => v = .pointer (some ⟨b1 + 1, 9, none⟩)
  | 27, v, _ => v = .slice (some ⟨p2, o2, none⟩) n.da.l.length n.da.c
  | 28, v, _ => v = .int .i64 j
  | 29, v, _ => v = .pointer (some ⟨p2, o2 + j * 10, none⟩)
  | 30, v, _ => v = .pointer (some ⟨p2, o2 + j * 10 + 9, none⟩)
  | 31, v, _ => v = .slice y.bs.A y.bs.bs.length y.bs.c
  | 32, v, _ => v = .string ⟨y.bs.bs.toArray⟩
  | 33, v, _ => v = .bool true
  | 34, v, _ => v = .bool true
  | _, _, _ => True
theorem W9.mono {m n : Mo} {b1 j : Nat} {x y : Da} {p1 o1 p2 o2 : Nat} (i : Nat) (v : Value) (w w' : World) (h : W9 m n b1 j x y p1 o1 p2 o2 i v w) (hb : Below w.heap.size w w') : W9 m n b1 j x y p1 o1 p2 o2 i v w' := by
  unfold W9 at *
  split at h
  all_goals first | exact h | (obtain ⟨A, h1, h2⟩ := h; exact ⟨A, h1, h2.later hb⟩)

set_option maxHeartbeats 8000000 in
set_option maxRecDepth 100000 in
theorem sloop_da (m n : Mo) (w0 : World) (b1 : Nat) (hC : SmC m n w0 b1) (Q0 : Exit → Act → World → Prop) (hexit : ∀ (a : Act) (wr : World), Fz b1 a → Below w0.heap.size w0 wr → Q0 (.exit 16) a wr)
    (a : Act) (w : World) (hf : Fz b1 a) (h4 : a.eval (.tmp 14) = .int .i64 0) (hb : Below w0.heap.size w0 w) : (Code.loop (smBody 8)).wp Tryz.prog Q0 a w := by
  have hkey := (keyM_iff m n).1 hC.key
  have hle : m.da.l.length ≤ 9223372036854775807 := by have := Nat.le_trans hC.ok1.da.le hC.ok1.da.c; unfold maxLen at this; exact this
  refine wp_loop (fun a wr => Fz b1 a ∧ ∃ j : Nat, a.eval (.tmp 14) = .int .i64 j ∧ j ≤ m.da.l.length ∧ Below w0.heap.size w0 wr) (fun a _ => m.da.l.length - (intOf (a.eval (.tmp 14))).toNat) ⟨hf, 0, h4, by omega, hb⟩ ?_
  clear hf h4 hb a w
  rintro a wr ⟨hf, j, h4, hj, hbel⟩
  rw [fz_of a hf.size hf.defers]
  have h2 : (fun i => a.eval (.tmp i)) 2 = .pointer (some ⟨b1, 0, none⟩) := hf.e2
  have h3 : (fun i => a.eval (.tmp i)) 3 = .pointer (some ⟨b1 + 1, 0, none⟩) := hf.e3
  have h5 : (fun i => a.eval (.tmp i)) 5 = .bool true := hf.e5
  replace h4 : (fun i => a.eval (.tmp i)) 14 = .int .i64 j := h4
  generalize (fun i => a.eval (.tmp i)) = f at h2 h3 h4 h5 ⊢
  clear hf a
  have hl0 : b1 < wr.heap.size := Nat.lt_of_lt_of_le (Nat.lt_of_succ_lt hC.lt) hbel.size
  have hl1 : b1 + 1 < wr.heap.size := Nat.lt_of_lt_of_le hC.lt hbel.size
  have hc0 : wr.cell? ⟨b1, 9, none⟩ = some (.slice m.da.A m.da.l.length m.da.c) := (hbel.cell (p := ⟨b1, 9, none⟩) (Nat.lt_of_succ_lt hC.lt)).trans (hC.box1 9 (by omega))
  by_cases hlt : j < m.da.l.length
  · have hlt2 : j < n.da.l.length := by
      have := hkey.2.2.2.2.2.2.2.2.2.1
      rw [key_len kDa this]; exact hlt
    have hc1 : wr.cell? ⟨b1 + 1, 9, none⟩ = some (.slice n.da.A n.da.l.length n.da.c) := (hbel.cell (p := ⟨b1 + 1, 9, none⟩) hC.lt).trans (hC.box2 9 (by omega))
    obtain ⟨p1, o1, x, hA1, hx, hb1, hok1, hcell1⟩ := hC.ok1.da.at_ hlt
    obtain ⟨p2, o2, y, hA2, hy, hb2, hok2, hcell2⟩ := hC.ok2.da.at_ hlt2
    have hkk := key_at kDa hkey.2.2.2.2.2.2.2.2.2.1 hx hy
    obtain ⟨eq_i, eq_bs⟩ : x.i.n = y.i.n ∧ x.bs.bs = y.bs.bs := by unfold kDa at hkk; simp at hkk; exact hkk
    clear hkk
    have EQ_i := Lib.hid eq_i
    clear eq_i
    have EQ_bs := Lib.hid eq_bs
    clear eq_bs
    have q0 : wr.cell? ⟨p1, o1 + j * 10, none⟩ = some (.int .i64 x.i.n.op) := (hbel.cell (p := ⟨p1, _, none⟩) hb1).trans (hcell1 0 (by omega))
    have q1 : wr.cell? ⟨p1, o1 + j * 10 + 1, none⟩ = some (.int .i64 x.i.n.a) := (hbel.cell (p := ⟨p1, _, none⟩) hb1).trans (hcell1 1 (by omega))
    have q2 : wr.cell? ⟨p1, o1 + j * 10 + 2, none⟩ = some (.int .i64 x.i.n.b) := (hbel.cell (p := ⟨p1, _, none⟩) hb1).trans (hcell1 2 (by omega))
    have q3 : wr.cell? ⟨p1, o1 + j * 10 + 3, none⟩ = some (.int .u64 x.i.n.v) := (hbel.cell (p := ⟨p1, _, none⟩) hb1).trans (hcell1 3 (by omega))
    have q4 : wr.cell? ⟨p1, o1 + j * 10 + 4, none⟩ = some (.int .i64 x.i.n.t) := (hbel.cell (p := ⟨p1, _, none⟩) hb1).trans (hcell1 4 (by omega))
    have q5 : wr.cell? ⟨p1, o1 + j * 10 + 5, none⟩ = some (.slice x.i.p.AL x.i.n.L.length x.i.p.cL) := (hbel.cell (p := ⟨p1, _, none⟩) hb1).trans (hcell1 5 (by omega))
    have q6 : wr.cell? ⟨p1, o1 + j * 10 + 6, none⟩ = some (.slice x.i.p.Ab (len x.i.n.body) x.i.p.cb) := (hbel.cell (p := ⟨p1, _, none⟩) hb1).trans (hcell1 6 (by omega))
    have q7 : wr.cell? ⟨p1, o1 + j * 10 + 7, none⟩ = some (.slice x.i.p.Ae (len x.i.n.els) x.i.p.ce) := (hbel.cell (p := ⟨p1, _, none⟩) hb1).trans (hcell1 7 (by omega))
    have q8 : wr.cell? ⟨p1, o1 + j * 10 + 8, none⟩ = some (.bool x.i.n.he) := (hbel.cell (p := ⟨p1, _, none⟩) hb1).trans (hcell1 8 (by omega))
    have q9 : wr.cell? ⟨p1, o1 + j * 10 + 9, none⟩ = some (.slice x.bs.A x.bs.bs.length x.bs.c) := (hbel.cell (p := ⟨p1, _, none⟩) hb1).trans (hcell1 9 (by omega))
    have r0 : wr.cell? ⟨p2, o2 + j * 10, none⟩ = some (.int .i64 y.i.n.op) := (hbel.cell (p := ⟨p2, _, none⟩) hb2).trans (hcell2 0 (by omega))
    have r1 : wr.cell? ⟨p2, o2 + j * 10 + 1, none⟩ = some (.int .i64 y.i.n.a) := (hbel.cell (p := ⟨p2, _, none⟩) hb2).trans (hcell2 1 (by omega))
    have r2 : wr.cell? ⟨p2, o2 + j * 10 + 2, none⟩ = some (.int .i64 y.i.n.b) := (hbel.cell (p := ⟨p2, _, none⟩) hb2).trans (hcell2 2 (by omega))
    have r3 : wr.cell? ⟨p2, o2 + j * 10 + 3, none⟩ = some (.int .u64 y.i.n.v) := (hbel.cell (p := ⟨p2, _, none⟩) hb2).trans (hcell2 3 (by omega))
    have r4 : wr.cell? ⟨p2, o2 + j * 10 + 4, none⟩ = some (.int .i64 y.i.n.t) := (hbel.cell (p := ⟨p2, _, none⟩) hb2).trans (hcell2 4 (by omega))
    have r5 : wr.cell? ⟨p2, o2 + j * 10 + 5, none⟩ = some (.slice y.i.p.AL y.i.n.L.length y.i.p.cL) := (hbel.cell (p := ⟨p2, _, none⟩) hb2).trans (hcell2 5 (by omega))
    have r6 : wr.cell? ⟨p2, o2 + j * 10 + 6, none⟩ = some (.slice y.i.p.Ab (len y.i.n.body) y.i.p.cb) := (hbel.cell (p := ⟨p2, _, none⟩) hb2).trans (hcell2 6 (by omega))
    have r7 : wr.cell? ⟨p2, o2 + j * 10 + 7, none⟩ = some (.slice y.i.p.Ae (len y.i.n.els) y.i.p.ce) := (hbel.cell (p := ⟨p2, _, none⟩) hb2).trans (hcell2 7 (by omega))
    have r8 : wr.cell? ⟨p2, o2 + j * 10 + 8, none⟩ = some (.bool y.i.n.he) := (hbel.cell (p := ⟨p2, _, none⟩) hb2).trans (hcell2 8 (by omega))
    have r9 : wr.cell? ⟨p2, o2 + j * 10 + 9, none⟩ = some (.slice y.bs.A y.bs.bs.length y.bs.c) := (hbel.cell (p := ⟨p2, _, none⟩) hb2).trans (hcell2 9 (by omega))
    have hok1' := hok1.keep hbel.size (Below.kp hbel)
    have hok2' := hok2.keep hbel.size (Below.kp hbel)
    have hb1' := Nat.lt_of_lt_of_le hb1 hbel.size
    have hb2' := Nat.lt_of_lt_of_le hb2 hbel.size
    rw [hA1] at hc0
    rw [hA2] at hc1
    have HKY := Lib.hid hkey
    clear hkey hcell1 hcell2 hexit
    conv => arg 2; whnf
    unfold fz
    simp only [h2, h3, h4, h5]
    go_wp2_with fail
    refine gen_z 14 (v2 := .pointer (some ⟨b1, 0, none⟩)) (v3 := .pointer (some ⟨b1 + 1, 0, none⟩)) (v5 := .bool true) (vk := .int .i64 j) _ rfl rfl rfl rfl rfl rfl ?_
    intro a hsz hd e2 e3 e5 e4
    refine region_vals 35 36 (W9 m n b1 j x y p1 o1 p2 o2) (fun i => i + 388) a wr (by kernel_rfl) rfl (by omega) (by kernel_rfl) (by kernel_rfl) (by kernel_rfl) (by rw [hsz]; kernel_rfl) W9.mono ?_ ?_
    · intro i hi a1 w1 hB hV
      have hbw : Below wr.heap.size wr w1 := ((Below.refl wr.heap.size wr).drew).trans hB.below
      have z2 := ev ((hB.same 2 (fun i _ => by omega)).trans e2)
      have z3 := ev ((hB.same 3 (fun i _ => by omega)).trans e3)
      have z4 := ev ((hB.same 14 (fun i _ => by omega)).trans e4)
      have z5 := ev ((hB.same 5 (fun i _ => by omega)).trans e5)
      have d0 := (hbw.cell (p := ⟨b1, 9, none⟩) hl0).trans hc0
      have d1 := (hbw.cell (p := ⟨b1 + 1, 9, none⟩) hl1).trans hc1
      have u0 := (hbw.cell (p := ⟨p1, _, none⟩) hb1').trans q0
      have v0 := (hbw.cell (p := ⟨p2, _, none⟩) hb2').trans r0
      have u1 := (hbw.cell (p := ⟨p1, _, none⟩) hb1').trans q1
      have v1 := (hbw.cell (p := ⟨p2, _, none⟩) hb2').trans r1
      have u2 := (hbw.cell (p := ⟨p1, _, none⟩) hb1').trans q2
      have v2 := (hbw.cell (p := ⟨p2, _, none⟩) hb2').trans r2
      have u3 := (hbw.cell (p := ⟨p1, _, none⟩) hb1').trans q3
      have v3 := (hbw.cell (p := ⟨p2, _, none⟩) hb2').trans r3
      have u4 := (hbw.cell (p := ⟨p1, _, none⟩) hb1').trans q4
      have v4 := (hbw.cell (p := ⟨p2, _, none⟩) hb2').trans r4
      have u5 := (hbw.cell (p := ⟨p1, _, none⟩) hb1').trans q5
      have v5 := (hbw.cell (p := ⟨p2, _, none⟩) hb2').trans r5
      have u6 := (hbw.cell (p := ⟨p1, _, none⟩) hb1').trans q6
      have v6 := (hbw.cell (p := ⟨p2, _, none⟩) hb2').trans r6
      have u7 := (hbw.cell (p := ⟨p1, _, none⟩) hb1').trans q7
      have v7 := (hbw.cell (p := ⟨p2, _, none⟩) hb2').trans r7
      have u8 := (hbw.cell (p := ⟨p1, _, none⟩) hb1').trans q8
      have v8 := (hbw.cell (p := ⟨p2, _, none⟩) hb2').trans r8
      have u9 := (hbw.cell (p := ⟨p1, _, none⟩) hb1').trans q9
      have v9 := (hbw.cell (p := ⟨p2, _, none⟩) hb2').trans r9
      have hkx := hok1'.keep hbw.size (Below.kp hbw)
      have hky := hok2'.keep hbw.size (Below.kp hbw)
      match i, hi with
      | 0, _ =>
        exact op_plain rfl rfl (op_val (.bool true) (by go_simp) ⟨_, rfl, Below.refl _ _, rfl⟩)
      | 1, _ =>
        have k0 := ev (show a1.eval (.tmp 388) = _ from hV ⟨0, .data⟩ (by first | exact .head _ | exact .tail _ (.head _) | exact .tail _ (.tail _ (.head _)) | exact .tail _ (.tail _ (.tail _ (.head _))) | exact .tail _ (.tail _ (.tail _ (.tail _ (.head _))))) rfl)
        exact op_plain rfl rfl (op_val (.bool true) (by go_simp) ⟨_, rfl, Below.refl _ _, rfl⟩)
      | 2, _ =>
        exact op_guardT rfl rfl rfl (show a1.eval (.tmp 389) = .bool true from hV ⟨1, .guard⟩ (by first | exact .head _ | exact .tail _ (.head _) | exact .tail _ (.tail _ (.head _)) | exact .tail _ (.tail _ (.tail _ (.head _))) | exact .tail _ (.tail _ (.tail _ (.tail _ (.head _))))) rfl) (op_val (.pointer (some ⟨b1, 9, none⟩)) (by go_simp) ⟨_, rfl, Below.refl _ _, rfl⟩)
      | 3, _ =>
        have k0 := ev (show a1.eval (.tmp 390) = _ from hV ⟨2, .data⟩ (by first | exact .head _ | exact .tail _ (.head _) | exact .tail _ (.tail _ (.head _)) | exact .tail _ (.tail _ (.tail _ (.head _))) | exact .tail _ (.tail _ (.tail _ (.tail _ (.head _))))) rfl)
        exact op_guardT rfl rfl rfl (show a1.eval (.tmp 389) = .bool true from hV ⟨1, .guard⟩ (by first | exact .head _ | exact .tail _ (.head _) | exact .tail _ (.tail _ (.head _)) | exact .tail _ (.tail _ (.tail _ (.head _))) | exact .tail _ (.tail _ (.tail _ (.tail _ (.head _))))) rfl) (op_val (.slice (some ⟨p1, o1, none⟩) m.da.l.length m.da.c) (by go_simp) ⟨_, rfl, Below.refl _ _, rfl⟩)
      | 4, _ =>
        exact op_guardT rfl rfl rfl (show a1.eval (.tmp 389) = .bool true from hV ⟨1, .guard⟩ (by first | exact .head _ | exact .tail _ (.head _) | exact .tail _ (.tail _ (.head _)) | exact .tail _ (.tail _ (.tail _ (.head _))) | exact .tail _ (.tail _ (.tail _ (.tail _ (.head _))))) rfl) (op_val (.int .i64 j) (by go_simp) ⟨_, rfl, Below.refl _ _, rfl⟩)
      | 5, _ =>
        have k0 := ev (show a1.eval (.tmp 391) = _ from hV ⟨3, .data⟩ (by first | exact .head _ | exact .tail _ (.head _) | exact .tail _ (.tail _ (.head _)) | exact .tail _ (.tail _ (.tail _ (.head _))) | exact .tail _ (.tail _ (.tail _ (.tail _ (.head _))))) rfl)
        have k1 := ev (show a1.eval (.tmp 392) = _ from hV ⟨4, .data⟩ (by first | exact .head _ | exact .tail _ (.head _) | exact .tail _ (.tail _ (.head _)) | exact .tail _ (.tail _ (.tail _ (.head _))) | exact .tail _ (.tail _ (.tail _ (.tail _ (.head _))))) rfl)
        exact op_guardT rfl rfl rfl (show a1.eval (.tmp 389) = .bool true from hV ⟨1, .guard⟩ (by first | exact .head _ | exact .tail _ (.head _) | exact .tail _ (.tail _ (.head _)) | exact .tail _ (.tail _ (.tail _ (.head _))) | exact .tail _ (.tail _ (.tail _ (.tail _ (.head _))))) rfl) (op_val (.pointer (some ⟨p1, o1 + j * 10, none⟩)) (by go_simp) ⟨_, rfl, Below.refl _ _, rfl⟩)
      | 6, _ =>
        have k0 := ev (show a1.eval (.tmp 393) = _ from hV ⟨5, .data⟩ (by first | exact .head _ | exact .tail _ (.head _) | exact .tail _ (.tail _ (.head _)) | exact .tail _ (.tail _ (.tail _ (.head _))) | exact .tail _ (.tail _ (.tail _ (.tail _ (.head _))))) rfl)
        exact op_guardT rfl rfl rfl (show a1.eval (.tmp 389) = .bool true from hV ⟨1, .guard⟩ (by first | exact .head _ | exact .tail _ (.head _) | exact .tail _ (.tail _ (.head _)) | exact .tail _ (.tail _ (.tail _ (.head _))) | exact .tail _ (.tail _ (.tail _ (.tail _ (.head _))))) rfl) (op_val (.pointer (some ⟨p1, o1 + j * 10, none⟩)) (by go_simp) ⟨_, rfl, Below.refl _ _, rfl⟩)
      | 7, _ =>
        have k0 := ev (show a1.eval (.tmp 394) = _ from hV ⟨6, .data⟩ (by first | exact .head _ | exact .tail _ (.head _) | exact .tail _ (.tail _ (.head _)) | exact .tail _ (.tail _ (.tail _ (.head _))) | exact .tail _ (.tail _ (.tail _ (.tail _ (.head _))))) rfl)
        exact op_guardT rfl rfl rfl (show a1.eval (.tmp 389) = .bool true from hV ⟨1, .guard⟩ (by first | exact .head _ | exact .tail _ (.head _) | exact .tail _ (.tail _ (.head _)) | exact .tail _ (.tail _ (.tail _ (.head _))) | exact .tail _ (.tail _ (.tail _ (.tail _ (.head _))))) rfl) (op_val (.agg #[.int .i64 x.i.n.op, .int .i64 x.i.n.a, .int .i64 x.i.n.b, .int .u64 x.i.n.v, .int .i64 x.i.n.t, .slice x.i.p.AL x.i.n.L.length x.i.p.cL, .slice x.i.p.Ab (len x.i.n.body) x.i.p.cb, .slice x.i.p.Ae (len x.i.n.els) x.i.p.ce, .bool x.i.n.he]) (by go_simp) ⟨_, rfl, Below.refl _ _, rfl⟩)
      | 8, _ =>
        have k0 := ev (show a1.eval (.tmp 395) = _ from hV ⟨7, .data⟩ (by first | exact .head _ | exact .tail _ (.head _) | exact .tail _ (.tail _ (.head _)) | exact .tail _ (.tail _ (.tail _ (.head _))) | exact .tail _ (.tail _ (.tail _ (.tail _ (.head _))))) rfl)
        have HQ := Lib.hid (single_any x.i w1 hkx.i)
        refine op_guardT rfl rfl rfl (show a1.eval (.tmp 389) = .bool true from hV ⟨1, .guard⟩ (by first | exact .head _ | exact .tail _ (.head _) | exact .tail _ (.tail _ (.head _)) | exact .tail _ (.tail _ (.tail _ (.head _))) | exact .tail _ (.tail _ (.tail _ (.tail _ (.head _))))) rfl) ?_
        go_simp
        refine HQ.out.mono ?_
        rintro e w' ⟨A', rfl, y1, y2⟩
        exact ⟨_, rfl, y2, A', rfl, y1⟩
      | 9, _ =>
        exact op_guardT rfl rfl rfl (show a1.eval (.tmp 389) = .bool true from hV ⟨1, .guard⟩ (by first | exact .head _ | exact .tail _ (.head _) | exact .tail _ (.tail _ (.head _)) | exact .tail _ (.tail _ (.tail _ (.head _))) | exact .tail _ (.tail _ (.tail _ (.tail _ (.head _))))) rfl) (op_val (.pointer (some ⟨b1 + 1, 9, none⟩)) (by go_simp) ⟨_, rfl, Below.refl _ _, rfl⟩)
      | 10, _ =>
        have k0 := ev (show a1.eval (.tmp 397) = _ from hV ⟨9, .data⟩ (by first | exact .head _ | exact .tail _ (.head _) | exact .tail _ (.tail _ (.head _)) | exact .tail _ (.tail _ (.tail _ (.head _))) | exact .tail _ (.tail _ (.tail _ (.tail _ (.head _))))) rfl)
        exact op_guardT rfl rfl rfl (show a1.eval (.tmp 389) = .bool true from hV ⟨1, .guard⟩ (by first | exact .head _ | exact .tail _ (.head _) | exact .tail _ (.tail _ (.head _)) | exact .tail _ (.tail _ (.tail _ (.head _))) | exact .tail _ (.tail _ (.tail _ (.tail _ (.head _))))) rfl) (op_val (.slice (some ⟨p2, o2, none⟩) n.da.l.length n.da.c) (by go_simp) ⟨_, rfl, Below.refl _ _, rfl⟩)
      | 11, _ =>
        exact op_guardT rfl rfl rfl (show a1.eval (.tmp 389) = .bool true from hV ⟨1, .guard⟩ (by first | exact .head _ | exact .tail _ (.head _) | exact .tail _ (.tail _ (.head _)) | exact .tail _ (.tail _ (.tail _ (.head _))) | exact .tail _ (.tail _ (.tail _ (.tail _ (.head _))))) rfl) (op_val (.int .i64 j) (by go_simp) ⟨_, rfl, Below.refl _ _, rfl⟩)
      | 12, _ =>
        have k0 := ev (show a1.eval (.tmp 398) = _ from hV ⟨10, .data⟩ (by first | exact .head _ | exact .tail _ (.head _) | exact .tail _ (.tail _ (.head _)) | exact .tail _ (.tail _ (.tail _ (.head _))) | exact .tail _ (.tail _ (.tail _ (.tail _ (.head _))))) rfl)
        have k1 := ev (show a1.eval (.tmp 399) = _ from hV ⟨11, .data⟩ (by first | exact .head _ | exact .tail _ (.head _) | exact .tail _ (.tail _ (.head _)) | exact .tail _ (.tail _ (.tail _ (.head _))) | exact .tail _ (.tail _ (.tail _ (.tail _ (.head _))))) rfl)
        exact op_guardT rfl rfl rfl (show a1.eval (.tmp 389) = .bool true from hV ⟨1, .guard⟩ (by first | exact .head _ | exact .tail _ (.head _) | exact .tail _ (.tail _ (.head _)) | exact .tail _ (.tail _ (.tail _ (.head _))) | exact .tail _ (.tail _ (.tail _ (.tail _ (.head _))))) rfl) (op_val (.pointer (some ⟨p2, o2 + j * 10, none⟩)) (by go_simp) ⟨_, rfl, Below.refl _ _, rfl⟩)
      | 13, _ =>
        have k0 := ev (show a1.eval (.tmp 400) = _ from hV ⟨12, .data⟩ (by first | exact .head _ | exact .tail _ (.head _) | exact .tail _ (.tail _ (.head _)) | exact .tail _ (.tail _ (.tail _ (.head _))) | exact .tail _ (.tail _ (.tail _ (.tail _ (.head _))))) rfl)
        exact op_guardT rfl rfl rfl (show a1.eval (.tmp 389) = .bool true from hV ⟨1, .guard⟩ (by first | exact .head _ | exact .tail _ (.head _) | exact .tail _ (.tail _ (.head _)) | exact .tail _ (.tail _ (.tail _ (.head _))) | exact .tail _ (.tail _ (.tail _ (.tail _ (.head _))))) rfl) (op_val (.pointer (some ⟨p2, o2 + j * 10, none⟩)) (by go_simp) ⟨_, rfl, Below.refl _ _, rfl⟩)
      | 14, _ =>
        have k0 := ev (show a1.eval (.tmp 401) = _ from hV ⟨13, .data⟩ (by first | exact .head _ | exact .tail _ (.head _) | exact .tail _ (.tail _ (.head _)) | exact .tail _ (.tail _ (.tail _ (.head _))) | exact .tail _ (.tail _ (.tail _ (.tail _ (.head _))))) rfl)
        exact op_guardT rfl rfl rfl (show a1.eval (.tmp 389) = .bool true from hV ⟨1, .guard⟩ (by first | exact .head _ | exact .tail _ (.head _) | exact .tail _ (.tail _ (.head _)) | exact .tail _ (.tail _ (.tail _ (.head _))) | exact .tail _ (.tail _ (.tail _ (.tail _ (.head _))))) rfl) (op_val (.agg #[.int .i64 y.i.n.op, .int .i64 y.i.n.a, .int .i64 y.i.n.b, .int .u64 y.i.n.v, .int .i64 y.i.n.t, .slice y.i.p.AL y.i.n.L.length y.i.p.cL, .slice y.i.p.Ab (len y.i.n.body) y.i.p.cb, .slice y.i.p.Ae (len y.i.n.els) y.i.p.ce, .bool y.i.n.he]) (by go_simp) ⟨_, rfl, Below.refl _ _, rfl⟩)
      | 15, _ =>
        have k0 := ev (show a1.eval (.tmp 402) = _ from hV ⟨14, .data⟩ (by first | exact .head _ | exact .tail _ (.head _) | exact .tail _ (.tail _ (.head _)) | exact .tail _ (.tail _ (.tail _ (.head _))) | exact .tail _ (.tail _ (.tail _ (.tail _ (.head _))))) rfl)
        have HQ := Lib.hid (single_any y.i w1 hky.i)
        refine op_guardT rfl rfl rfl (show a1.eval (.tmp 389) = .bool true from hV ⟨1, .guard⟩ (by first | exact .head _ | exact .tail _ (.head _) | exact .tail _ (.tail _ (.head _)) | exact .tail _ (.tail _ (.tail _ (.head _))) | exact .tail _ (.tail _ (.tail _ (.tail _ (.head _))))) rfl) ?_
        go_simp
        refine HQ.out.mono ?_
        rintro e w' ⟨A', rfl, y1, y2⟩
        exact ⟨_, rfl, y2, A', rfl, y1⟩
      | 16, _ =>
        obtain ⟨A1, k0, d1⟩ : ∃ A, a1.eval (.tmp 396) = .slice A 1 1 ∧ RdS w1 w1.heap.size A (ofN [x.i.n]) := hV ⟨8, .data⟩ (by first | exact .head _ | exact .tail _ (.head _) | exact .tail _ (.tail _ (.head _)) | exact .tail _ (.tail _ (.tail _ (.head _))) | exact .tail _ (.tail _ (.tail _ (.tail _ (.head _))))) rfl
        obtain ⟨A2, k1, d2⟩ : ∃ A, a1.eval (.tmp 403) = .slice A 1 1 ∧ RdS w1 w1.heap.size A (ofN [y.i.n]) := hV ⟨15, .data⟩ (by first | exact .head _ | exact .tail _ (.head _) | exact .tail _ (.tail _ (.head _)) | exact .tail _ (.tail _ (.tail _ (.head _))) | exact .tail _ (.tail _ (.tail _ (.tail _ (.head _))))) rfl
        have k0 := ev k0
        have k1 := ev k1
        have HQ := Lib.hid (Ins_eq x.i.n y.i.n A1 A2 w1 d1 d2 EQ_i.out)
        refine op_guardT rfl rfl rfl (show a1.eval (.tmp 389) = .bool true from hV ⟨1, .guard⟩ (by first | exact .head _ | exact .tail _ (.head _) | exact .tail _ (.tail _ (.head _)) | exact .tail _ (.tail _ (.tail _ (.head _))) | exact .tail _ (.tail _ (.tail _ (.tail _ (.head _))))) rfl) ?_
        go_simp
        refine HQ.out.mono ?_
        rintro e w' ⟨rfl, hb⟩
        exact ⟨_, rfl, hb, rfl⟩
      | 17, _ =>
        have k0 := ev (show a1.eval (.tmp 389) = _ from hV ⟨1, .data⟩ (by first | exact .head _ | exact .tail _ (.head _) | exact .tail _ (.tail _ (.head _)) | exact .tail _ (.tail _ (.tail _ (.head _))) | exact .tail _ (.tail _ (.tail _ (.tail _ (.head _))))) rfl)
        have k1 := ev (show a1.eval (.tmp 404) = _ from hV ⟨16, .data⟩ (by first | exact .head _ | exact .tail _ (.head _) | exact .tail _ (.tail _ (.head _)) | exact .tail _ (.tail _ (.tail _ (.head _))) | exact .tail _ (.tail _ (.tail _ (.tail _ (.head _))))) rfl)
        exact op_plain rfl rfl (op_val (.bool true) (by go_simp) ⟨_, rfl, Below.refl _ _, rfl⟩)
      | 18, _ =>
        have k0 := ev (show a1.eval (.tmp 405) = _ from hV ⟨17, .data⟩ (by first | exact .head _ | exact .tail _ (.head _) | exact .tail _ (.tail _ (.head _)) | exact .tail _ (.tail _ (.tail _ (.head _))) | exact .tail _ (.tail _ (.tail _ (.tail _ (.head _))))) rfl)
        exact op_plain rfl rfl (op_val (.bool true) (by go_simp) ⟨_, rfl, Below.refl _ _, rfl⟩)
      | 19, _ =>
        exact op_guardT rfl rfl rfl (show a1.eval (.tmp 406) = .bool true from hV ⟨18, .guard⟩ (by first | exact .head _ | exact .tail _ (.head _) | exact .tail _ (.tail _ (.head _)) | exact .tail _ (.tail _ (.tail _ (.head _))) | exact .tail _ (.tail _ (.tail _ (.tail _ (.head _))))) rfl) (op_val (.pointer (some ⟨b1, 9, none⟩)) (by go_simp) ⟨_, rfl, Below.refl _ _, rfl⟩)
      | 20, _ =>
        have k0 := ev (show a1.eval (.tmp 407) = _ from hV ⟨19, .data⟩ (by first | exact .head _ | exact .tail _ (.head _) | exact .tail _ (.tail _ (.head _)) | exact .tail _ (.tail _ (.tail _ (.head _))) | exact .tail _ (.tail _ (.tail _ (.tail _ (.head _))))) rfl)
        exact op_guardT rfl rfl rfl (show a1.eval (.tmp 406) = .bool true from hV ⟨18, .guard⟩ (by first | exact .head _ | exact .tail _ (.head _) | exact .tail _ (.tail _ (.head _)) | exact .tail _ (.tail _ (.tail _ (.head _))) | exact .tail _ (.tail _ (.tail _ (.tail _ (.head _))))) rfl) (op_val (.slice (some ⟨p1, o1, none⟩) m.da.l.length m.da.c) (by go_simp) ⟨_, rfl, Below.refl _ _, rfl⟩)
      | 21, _ =>
        exact op_guardT rfl rfl rfl (show a1.eval (.tmp 406) = .bool true from hV ⟨18, .guard⟩ (by first | exact .head _ | exact .tail _ (.head _) | exact .tail _ (.tail _ (.head _)) | exact .tail _ (.tail _ (.tail _ (.head _))) | exact .tail _ (.tail _ (.tail _ (.tail _ (.head _))))) rfl) (op_val (.int .i64 j) (by go_simp) ⟨_, rfl, Below.refl _ _, rfl⟩)
      | 22, _ =>
        have k0 := ev (show a1.eval (.tmp 408) = _ from hV ⟨20, .data⟩ (by first | exact .head _ | exact .tail _ (.head _) | exact .tail _ (.tail _ (.head _)) | exact .tail _ (.tail _ (.tail _ (.head _))) | exact .tail _ (.tail _ (.tail _ (.tail _ (.head _))))) rfl)
        have k1 := ev (show a1.eval (.tmp 409) = _ from hV ⟨21, .data⟩ (by first | exact .head _ | exact .tail _ (.head _) | exact .tail _ (.tail _ (.head _)) | exact .tail _ (.tail _ (.tail _ (.head _))) | exact .tail _ (.tail _ (.tail _ (.tail _ (.head _))))) rfl)
        exact op_guardT rfl rfl rfl (show a1.eval (.tmp 406) = .bool true from hV ⟨18, .guard⟩ (by first | exact .head _ | exact .tail _ (.head _) | exact .tail _ (.tail _ (.head _)) | exact .tail _ (.tail _ (.tail _ (.head _))) | exact .tail _ (.tail _ (.tail _ (.tail _ (.head _))))) rfl) (op_val (.pointer (some ⟨p1, o1 + j * 10, none⟩)) (by go_simp) ⟨_, rfl, Below.refl _ _, rfl⟩)
      | 23, _ =>
        have k0 := ev (show a1.eval (.tmp 410) = _ from hV ⟨22, .data⟩ (by first | exact .head _ | exact .tail _ (.head _) | exact .tail _ (.tail _ (.head _)) | exact .tail _ (.tail _ (.tail _ (.head _))) | exact .tail _ (.tail _ (.tail _ (.tail _ (.head _))))) rfl)
        exact op_guardT rfl rfl rfl (show a1.eval (.tmp 406) = .bool true from hV ⟨18, .guard⟩ (by first | exact .head _ | exact .tail _ (.head _) | exact .tail _ (.tail _ (.head _)) | exact .tail _ (.tail _ (.tail _ (.head _))) | exact .tail _ (.tail _ (.tail _ (.tail _ (.head _))))) rfl) (op_val (.pointer (some ⟨p1, o1 + j * 10 + 9, none⟩)) (by go_simp) ⟨_, rfl, Below.refl _ _, rfl⟩)
      | 24, _ =>
        have k0 := ev (show a1.eval (.tmp 411) = _ from hV ⟨23, .data⟩ (by first | exact .head _ | exact .tail _ (.head _) | exact .tail _ (.tail _ (.head _)) | exact .tail _ (.tail _ (.tail _ (.head _))) | exact .tail _ (.tail _ (.tail _ (.tail _ (.head _))))) rfl)
        exact op_guardT rfl rfl rfl (show a1.eval (.tmp 406) = .bool true from hV ⟨18, .guard⟩ (by first | exact .head _ | exact .tail _ (.head _) | exact .tail _ (.tail _ (.head _)) | exact .tail _ (.tail _ (.tail _ (.head _))) | exact .tail _ (.tail _ (.tail _ (.tail _ (.head _))))) rfl) (op_val (.slice x.bs.A x.bs.bs.length x.bs.c) (by go_simp) ⟨_, rfl, Below.refl _ _, rfl⟩)
      | 25, _ =>
        have hcv := run_str_of (P := Tryz.prog) 59 9 5 Tryz.underlying59 Tryz.underlying5 Tryz.underlying9 hkx.bs.sl x.bs.c
        have k0 := ev (show a1.eval (.tmp 412) = _ from hV ⟨24, .data⟩ (by first | exact .head _ | exact .tail _ (.head _) | exact .tail _ (.tail _ (.head _)) | exact .tail _ (.tail _ (.tail _ (.head _))) | exact .tail _ (.tail _ (.tail _ (.tail _ (.head _))))) rfl)
        exact op_guardT rfl rfl rfl (show a1.eval (.tmp 406) = .bool true from hV ⟨18, .guard⟩ (by first | exact .head _ | exact .tail _ (.head _) | exact .tail _ (.tail _ (.head _)) | exact .tail _ (.tail _ (.tail _ (.head _))) | exact .tail _ (.tail _ (.tail _ (.tail _ (.head _))))) rfl) (op_val (.string ⟨x.bs.bs.toArray⟩) (by go_simp) ⟨_, rfl, Below.refl _ _, rfl⟩)
      | 26, _ =>
        exact op_guardT rfl rfl rfl (show a1.eval (.tmp 406) = .bool true from hV ⟨18, .guard⟩ (by first | exact .head _ | exact .tail _ (.head _) | exact .tail _ (.tail _ (.head _)) | exact .tail _ (.tail _ (.tail _ (.head _))) | exact .tail _ (.tail _ (.tail _ (.tail _ (.head _))))) rfl) (op_val (.pointer (some ⟨b1 + 1, 9, none⟩)) (by go_simp) ⟨_, rfl, Below.refl _ _, rfl⟩)
      | 27, _ =>
        have k0 := ev (show a1.eval (.tmp 414) = _ from hV ⟨26, .data⟩ (by first | exact .head _ | exact .tail _ (.head _) | exact .tail _ (.tail _ (.head _)) | exact .tail _ (.tail _ (.tail _ (.head _))) | exact .tail _ (.tail _ (.tail _ (.tail _ (.head _))))) rfl)
        exact op_guardT rfl rfl rfl (show a1.eval (.tmp 406) = .bool true from hV ⟨18, .guard⟩ (by first | exact .head _ | exact .tail _ (.head _) | exact .tail _ (.tail _ (.head _)) | exact .tail _ (.tail _ (.tail _ (.head _))) | exact .tail _ (.tail _ (.tail _ (.tail _ (.head _))))) rfl) (op_val (.slice (some ⟨p2, o2, none⟩) n.da.l.length n.da.c) (by go_simp) ⟨_, rfl, Below.refl _ _, rfl⟩)
      | 28, _ =>
        exact op_guardT rfl rfl rfl (show a1.eval (.tmp 406) = .bool true from hV ⟨18, .guard⟩ (by first | exact .head _ | exact .tail _ (.head _) | exact .tail _ (.tail _ (.head _)) | exact .tail _ (.tail _ (.tail _ (.head _))) | exact .tail _ (.tail _ (.tail _ (.tail _ (.head _))))) rfl) (op_val (.int .i64 j) (by go_simp) ⟨_, rfl, Below.refl _ _, rfl⟩)
      | 29, _ =>
        have k0 := ev (show a1.eval (.tmp 415) = _ from hV ⟨27, .data⟩ (by first | exact .head _ | exact .tail _ (.head _) | exact .tail _ (.tail _ (.head _)) | exact .tail _ (.tail _ (.tail _ (.head _))) | exact .tail _ (.tail _ (.tail _ (.tail _ (.head _))))) rfl)
        have k1 := ev (show a1.eval (.tmp 416) = _ from hV ⟨28, .data⟩ (by first | exact .head _ | exact .tail _ (.head _) | exact .tail _ (.tail _ (.head _)) | exact .tail _ (.tail _ (.tail _ (.head _))) | exact .tail _ (.tail _ (.tail _ (.tail _ (.head _))))) rfl)
        exact op_guardT rfl rfl rfl (show a1.eval (.tmp 406) = .bool true from hV ⟨18, .guard⟩ (by first | exact .head _ | exact .tail _ (.head _) | exact .tail _ (.tail _ (.head _)) | exact .tail _ (.tail _ (.tail _ (.head _))) | exact .tail _ (.tail _ (.tail _ (.tail _ (.head _))))) rfl) (op_val (.pointer (some ⟨p2, o2 + j * 10, none⟩)) (by go_simp) ⟨_, rfl, Below.refl _ _, rfl⟩)
      | 30, _ =>
        have k0 := ev (show a1.eval (.tmp 417) = _ from hV ⟨29, .data⟩ (by first | exact .head _ | exact .tail _ (.head _) | exact .tail _ (.tail _ (.head _)) | exact .tail _ (.tail _ (.tail _ (.head _))) | exact .tail _ (.tail _ (.tail _ (.tail _ (.head _))))) rfl)
        exact op_guardT rfl rfl rfl (show a1.eval (.tmp 406) = .bool true from hV ⟨18, .guard⟩ (by first | exact .head _ | exact .tail _ (.head _) | exact .tail _ (.tail _ (.head _)) | exact .tail _ (.tail _ (.tail _ (.head _))) | exact .tail _ (.tail _ (.tail _ (.tail _ (.head _))))) rfl) (op_val (.pointer (some ⟨p2, o2 + j * 10 + 9, none⟩)) (by go_simp) ⟨_, rfl, Below.refl _ _, rfl⟩)
      | 31, _ =>
        have k0 := ev (show a1.eval (.tmp 418) = _ from hV ⟨30, .data⟩ (by first | exact .head _ | exact .tail _ (.head _) | exact .tail _ (.tail _ (.head _)) | exact .tail _ (.tail _ (.tail _ (.head _))) | exact .tail _ (.tail _ (.tail _ (.tail _ (.head _))))) rfl)
        exact op_guardT rfl rfl rfl (show a1.eval (.tmp 406) = .bool true from hV ⟨18, .guard⟩ (by first | exact .head _ | exact .tail _ (.head _) | exact .tail _ (.tail _ (.head _)) | exact .tail _ (.tail _ (.tail _ (.head _))) | exact .tail _ (.tail _ (.tail _ (.tail _ (.head _))))) rfl) (op_val (.slice y.bs.A y.bs.bs.length y.bs.c) (by go_simp) ⟨_, rfl, Below.refl _ _, rfl⟩)
      | 32, _ =>
        have hcv := run_str_of (P := Tryz.prog) 59 9 5 Tryz.underlying59 Tryz.underlying5 Tryz.underlying9 hky.bs.sl y.bs.c
        have k0 := ev (show a1.eval (.tmp 419) = _ from hV ⟨31, .data⟩ (by first | exact .head _ | exact .tail _ (.head _) | exact .tail _ (.tail _ (.head _)) | exact .tail _ (.tail _ (.tail _ (.head _))) | exact .tail _ (.tail _ (.tail _ (.tail _ (.head _))))) rfl)
        exact op_guardT rfl rfl rfl (show a1.eval (.tmp 406) = .bool true from hV ⟨18, .guard⟩ (by first | exact .head _ | exact .tail _ (.head _) | exact .tail _ (.tail _ (.head _)) | exact .tail _ (.tail _ (.tail _ (.head _))) | exact .tail _ (.tail _ (.tail _ (.tail _ (.head _))))) rfl) (op_val (.string ⟨y.bs.bs.toArray⟩) (by go_simp) ⟨_, rfl, Below.refl _ _, rfl⟩)
      | 33, _ =>
        have heq := EQ_bs.out
        have k0 := ev (show a1.eval (.tmp 413) = _ from hV ⟨25, .data⟩ (by first | exact .head _ | exact .tail _ (.head _) | exact .tail _ (.tail _ (.head _)) | exact .tail _ (.tail _ (.tail _ (.head _))) | exact .tail _ (.tail _ (.tail _ (.tail _ (.head _))))) rfl)
        have k1 := ev (show a1.eval (.tmp 420) = _ from hV ⟨32, .data⟩ (by first | exact .head _ | exact .tail _ (.head _) | exact .tail _ (.tail _ (.head _)) | exact .tail _ (.tail _ (.tail _ (.head _))) | exact .tail _ (.tail _ (.tail _ (.tail _ (.head _))))) rfl)
        rw [← heq] at k1
        clear heq
        exact op_guardT rfl rfl rfl (show a1.eval (.tmp 406) = .bool true from hV ⟨18, .guard⟩ (by first | exact .head _ | exact .tail _ (.head _) | exact .tail _ (.tail _ (.head _)) | exact .tail _ (.tail _ (.tail _ (.head _))) | exact .tail _ (.tail _ (.tail _ (.tail _ (.head _))))) rfl) (op_val (.bool true) (by go_simp) ⟨_, rfl, Below.refl _ _, rfl⟩)
      | 34, _ =>
        have k0 := ev (show a1.eval (.tmp 406) = _ from hV ⟨18, .data⟩ (by first | exact .head _ | exact .tail _ (.head _) | exact .tail _ (.tail _ (.head _)) | exact .tail _ (.tail _ (.tail _ (.head _))) | exact .tail _ (.tail _ (.tail _ (.tail _ (.head _))))) rfl)
        have k1 := ev (show a1.eval (.tmp 421) = _ from hV ⟨33, .data⟩ (by first | exact .head _ | exact .tail _ (.head _) | exact .tail _ (.tail _ (.head _)) | exact .tail _ (.tail _ (.tail _ (.head _))) | exact .tail _ (.tail _ (.tail _ (.tail _ (.head _))))) rfl)
        exact op_plain rfl rfl (op_val (.bool true) (by go_simp) ⟨_, rfl, Below.refl _ _, rfl⟩)
      | k + 35, h => exact absurd h (by omega)
    · intro a1 w1 hB hV
      have hbw : Below wr.heap.size wr w1 := ((Below.refl wr.heap.size wr).drew).trans hB.below
      have x2 := (hB.same 2 (fun i _ => by omega)).trans e2
      have x3 := (hB.same 3 (fun i _ => by omega)).trans e3
      have x4 := (hB.same 14 (fun i _ => by omega)).trans e4
      have kz := ev (show a1.eval (.tmp 422) = .bool true from hV 34 (by omega))
      have HS1 := Lib.hid (hB.size.trans hsz)
      have hd1 := hB.defers.trans hd
      clear hV
      refine ready_one (i := 35) (by kernel_rfl) rfl rfl ?_
      refine op_val (.bool true) (by go_simp) ?_
      refine ready_none (by kernel_rfl) ?_
      change Exit.inBlock _ _ _ (a1.put (some 5) (.bool true)) w1
      generalize ha3 : a1.put (some 5) (.bool true) = a3
      have s3 : Hid (a3.tmps.size = 464) := Lib.hid (by rw [← ha3]; simp only [size_put, HS1.out])
      have d3 : a3.defers = [] := by rw [← ha3, defers_put, hd1]
      have F2 : (fun i => a3.eval (.tmp i)) 2 = .pointer (some ⟨b1, 0, none⟩) := by rw [← ha3]; simp only [eval_put]; exact x2
      have F3 : (fun i => a3.eval (.tmp i)) 3 = .pointer (some ⟨b1 + 1, 0, none⟩) := by rw [← ha3]; simp only [eval_put]; exact x3
      have F4 : (fun i => a3.eval (.tmp i)) 14 = .int .i64 j := by rw [← ha3]; simp only [eval_put]; exact x4
      have F5 : (fun i => a3.eval (.tmp i)) 5 = .bool true := by rw [← ha3]; simp [eval_put, HS1.out]
      rw [fz_of a3 s3.out d3]
      generalize (fun i => a3.eval (.tmp i)) = f' at F2 F3 F4 F5 ⊢
      clear s3 d3 ha3 a3 kz x2 x3 x4 HS1 hd1 hB e2 e3 e4 e5 hsz hd a1 a
      unfold fz
      simp only [F2, F3, F4, F5]
      go_wp2_with fail
      refine ⟨⟨⟨rfl, rfl, rfl, rfl, rfl⟩, j + 1, by show Value.int .i64 _ = _; go_num, by omega, hbel.trans (hbw.mono hbel.size)⟩, ?_⟩
      show m.da.l.length - (intOf (.int .i64 _)).toNat < m.da.l.length - (intOf (.int .i64 _)).toNat
      simp [intOf]
      omega
  · have HX := Lib.hid (fun a (hf : Fz b1 a) => hexit a wr hf hbel)
    clear hexit hkey
    conv => arg 2; whnf
    unfold fz
    simp only [h2, h3, h4, h5]
    go_wp2_with fail
    exact HX.out _ ⟨rfl, rfl, rfl, rfl, rfl⟩
end Go.Proofs.YtmdgemdollfnhaaGreatDoor

/- A loop of the reference's Same, of two modules that say the same. -/
namespace Go.Proofs.YtmdgemdollfnhaaGreatDoor
open Go.RowKit Trx

/-- what each operation of the region leaves in its slot. -/
def W10 (m n : Mo) (b1 j : Nat) (x y : Cu) (p1 o1 p2 o2 : Nat) : Nat → Value → World → Prop
  | 0, v, _ => v = .bool true
  | 1, v, _ => v = .bool true
  | 2, v, _ => v = .pointer (some ⟨b1, 10, none⟩)
  | 3, v, _ => v = .slice (some ⟨p1, o1, none⟩) m.cu.l.length m.cu.c
  | 4, v, _ => v = .int .i64 j
  | 5, v, _ => v = .pointer (some ⟨p1, o1 + j * 2, none⟩)
  | 6, v, _ => v = .pointer (some ⟨p1, o1 + j * 2, none⟩)
  | 7, v, _ => v = .string x.nm
  | 8, v, _ => v = .pointer (some ⟨b1 + 1, 10, none⟩)
  | 9, v, _ => v = .slice (some ⟨p2, o2, none⟩) n.cu.l.length n.cu.c
  | 10, v, _ => v = .int .i64 j
  | 11, v, _ => v = .pointer (some ⟨p2, o2 + j * 2, none⟩)
  | 12, v, _ => v = .pointer (some ⟨p2, o2 + j * 2, none⟩)
  | 13, v, _ => v = .string y.nm
  | 14, v, _ => v = .bool true
  | 15, v, _ => v = .bool true
  | 16, v, _ => v = .bool true
  | 17, v, _ => v = .pointer (some ⟨b1, 10, none⟩)
  | 18, v, _ => v = .slice (some ⟨p1, o1, none⟩) m.cu.l.length m.cu.c
  | 19, v, _ => v = .int .i64 j
  | 20, v, _ => v = .pointer (some ⟨p1, o1 + j * 2, none⟩)
  | 21, v, _ => v = .pointer (some ⟨p1, o1 + j * 2 + 1, none⟩)
  | 22, v, _ => v = .slice x.bs.A x.bs.bs.length x.bs.c
  | 23, v, _ => v = .string ⟨x.bs.bs.toArray⟩
  | 24, v, _ => v = .pointer (some ⟨b1 + 1, 10, none⟩)
  | 25, v, _ => v = .slice (some ⟨p2, o2, none⟩) n.cu.l.length n.cu.c
  | 26, v, _ => v = .int .i64 j
  | 27, v, _ => v = .pointer (some ⟨p2, o2 + j * 2, none⟩)
  | 28, v, _ => v = .pointer (some ⟨p2, o2 + j * 2 + 1, none⟩)
  | 29, v, _ => v = .slice y.bs.A y.bs.bs.length y.bs.c
  | 30, v, _ => v = .string ⟨y.bs.bs.toArray⟩
  | 31, v, _ => v = .bool true
  | 32, v, _ => v = .bool true
  | _, _, _ => True
theorem W10.mono {m n : Mo} {b1 j : Nat} {x y : Cu} {p1 o1 p2 o2 : Nat} (i : Nat) (v : Value) (w w' : World) (h : W10 m n b1 j x y p1 o1 p2 o2 i v w) (hb : Below w.heap.size w w') : W10 m n b1 j x y p1 o1 p2 o2 i v w' := by
  unfold W10 at *
  split at h
  all_goals first | exact h | (obtain ⟨A, h1, h2⟩ := h; exact ⟨A, h1, h2.later hb⟩)

set_option maxHeartbeats 8000000 in
set_option maxRecDepth 100000 in
theorem sloop_cu (m n : Mo) (w0 : World) (b1 : Nat) (hC : SmC m n w0 b1) (Q0 : Exit → Act → World → Prop) (hexit : ∀ (a : Act) (wr : World), Fz b1 a → Below w0.heap.size w0 wr → Q0 (.exit 18) a wr)
    (a : Act) (w : World) (hf : Fz b1 a) (h4 : a.eval (.tmp 15) = .int .i64 0) (hb : Below w0.heap.size w0 w) : (Code.loop (smBody 9)).wp Tryz.prog Q0 a w := by
  have hkey := (keyM_iff m n).1 hC.key
  have hle : m.cu.l.length ≤ 9223372036854775807 := by have := Nat.le_trans hC.ok1.cu.le hC.ok1.cu.c; unfold maxLen at this; exact this
  refine wp_loop (fun a wr => Fz b1 a ∧ ∃ j : Nat, a.eval (.tmp 15) = .int .i64 j ∧ j ≤ m.cu.l.length ∧ Below w0.heap.size w0 wr) (fun a _ => m.cu.l.length - (intOf (a.eval (.tmp 15))).toNat) ⟨hf, 0, h4, by omega, hb⟩ ?_
  clear hf h4 hb a w
  rintro a wr ⟨hf, j, h4, hj, hbel⟩
  rw [fz_of a hf.size hf.defers]
  have h2 : (fun i => a.eval (.tmp i)) 2 = .pointer (some ⟨b1, 0, none⟩) := hf.e2
  have h3 : (fun i => a.eval (.tmp i)) 3 = .pointer (some ⟨b1 + 1, 0, none⟩) := hf.e3
  have h5 : (fun i => a.eval (.tmp i)) 5 = .bool true := hf.e5
  replace h4 : (fun i => a.eval (.tmp i)) 15 = .int .i64 j := h4
  generalize (fun i => a.eval (.tmp i)) = f at h2 h3 h4 h5 ⊢
  clear hf a
  have hl0 : b1 < wr.heap.size := Nat.lt_of_lt_of_le (Nat.lt_of_succ_lt hC.lt) hbel.size
  have hl1 : b1 + 1 < wr.heap.size := Nat.lt_of_lt_of_le hC.lt hbel.size
  have hc0 : wr.cell? ⟨b1, 10, none⟩ = some (.slice m.cu.A m.cu.l.length m.cu.c) := (hbel.cell (p := ⟨b1, 10, none⟩) (Nat.lt_of_succ_lt hC.lt)).trans (hC.box1 10 (by omega))
  by_cases hlt : j < m.cu.l.length
  · have hlt2 : j < n.cu.l.length := by
      have := hkey.2.2.2.2.2.2.2.2.2.2
      rw [key_len kCu this]; exact hlt
    have hc1 : wr.cell? ⟨b1 + 1, 10, none⟩ = some (.slice n.cu.A n.cu.l.length n.cu.c) := (hbel.cell (p := ⟨b1 + 1, 10, none⟩) hC.lt).trans (hC.box2 10 (by omega))
    obtain ⟨p1, o1, x, hA1, hx, hb1, hok1, hcell1⟩ := hC.ok1.cu.at_ hlt
    obtain ⟨p2, o2, y, hA2, hy, hb2, hok2, hcell2⟩ := hC.ok2.cu.at_ hlt2
    have hkk := key_at kCu hkey.2.2.2.2.2.2.2.2.2.2 hx hy
    obtain ⟨eq_nm, eq_bs⟩ : x.nm = y.nm ∧ x.bs.bs = y.bs.bs := by unfold kCu at hkk; simp at hkk; exact hkk
    clear hkk
    have EQ_nm := Lib.hid eq_nm
    clear eq_nm
    have EQ_bs := Lib.hid eq_bs
    clear eq_bs
    have q0 : wr.cell? ⟨p1, o1 + j * 2, none⟩ = some (.string x.nm) := (hbel.cell (p := ⟨p1, _, none⟩) hb1).trans (hcell1 0 (by omega))
    have q1 : wr.cell? ⟨p1, o1 + j * 2 + 1, none⟩ = some (.slice x.bs.A x.bs.bs.length x.bs.c) := (hbel.cell (p := ⟨p1, _, none⟩) hb1).trans (hcell1 1 (by omega))
    have r0 : wr.cell? ⟨p2, o2 + j * 2, none⟩ = some (.string y.nm) := (hbel.cell (p := ⟨p2, _, none⟩) hb2).trans (hcell2 0 (by omega))
    have r1 : wr.cell? ⟨p2, o2 + j * 2 + 1, none⟩ = some (.slice y.bs.A y.bs.bs.length y.bs.c) := (hbel.cell (p := ⟨p2, _, none⟩) hb2).trans (hcell2 1 (by omega))
    have hok1' := hok1.keep hbel.size (Below.kp hbel)
    have hok2' := hok2.keep hbel.size (Below.kp hbel)
    have hb1' := Nat.lt_of_lt_of_le hb1 hbel.size
    have hb2' := Nat.lt_of_lt_of_le hb2 hbel.size
    rw [hA1] at hc0
    rw [hA2] at hc1
    have HKY := Lib.hid hkey
    clear hkey hcell1 hcell2 hexit
    conv => arg 2; whnf
    unfold fz
    simp only [h2, h3, h4, h5]
    go_wp2_with fail
    refine gen_z 15 (v2 := .pointer (some ⟨b1, 0, none⟩)) (v3 := .pointer (some ⟨b1 + 1, 0, none⟩)) (v5 := .bool true) (vk := .int .i64 j) _ rfl rfl rfl rfl rfl rfl ?_
    intro a hsz hd e2 e3 e5 e4
    refine region_vals 33 34 (W10 m n b1 j x y p1 o1 p2 o2) (fun i => i + 430) a wr (by kernel_rfl) rfl (by omega) (by kernel_rfl) (by kernel_rfl) (by kernel_rfl) (by rw [hsz]; kernel_rfl) W10.mono ?_ ?_
    · intro i hi a1 w1 hB hV
      have hbw : Below wr.heap.size wr w1 := ((Below.refl wr.heap.size wr).drew).trans hB.below
      have z2 := ev ((hB.same 2 (fun i _ => by omega)).trans e2)
      have z3 := ev ((hB.same 3 (fun i _ => by omega)).trans e3)
      have z4 := ev ((hB.same 15 (fun i _ => by omega)).trans e4)
      have z5 := ev ((hB.same 5 (fun i _ => by omega)).trans e5)
      have d0 := (hbw.cell (p := ⟨b1, 10, none⟩) hl0).trans hc0
      have d1 := (hbw.cell (p := ⟨b1 + 1, 10, none⟩) hl1).trans hc1
      have u0 := (hbw.cell (p := ⟨p1, _, none⟩) hb1').trans q0
      have v0 := (hbw.cell (p := ⟨p2, _, none⟩) hb2').trans r0
      have u1 := (hbw.cell (p := ⟨p1, _, none⟩) hb1').trans q1
      have v1 := (hbw.cell (p := ⟨p2, _, none⟩) hb2').trans r1
      have hkx := hok1'.keep hbw.size (Below.kp hbw)
      have hky := hok2'.keep hbw.size (Below.kp hbw)
      match i, hi with
      | 0, _ =>
        exact op_plain rfl rfl (op_val (.bool true) (by go_simp) ⟨_, rfl, Below.refl _ _, rfl⟩)
      | 1, _ =>
        have k0 := ev (show a1.eval (.tmp 430) = _ from hV ⟨0, .data⟩ (by first | exact .head _ | exact .tail _ (.head _) | exact .tail _ (.tail _ (.head _)) | exact .tail _ (.tail _ (.tail _ (.head _))) | exact .tail _ (.tail _ (.tail _ (.tail _ (.head _))))) rfl)
        exact op_plain rfl rfl (op_val (.bool true) (by go_simp) ⟨_, rfl, Below.refl _ _, rfl⟩)
      | 2, _ =>
        exact op_guardT rfl rfl rfl (show a1.eval (.tmp 431) = .bool true from hV ⟨1, .guard⟩ (by first | exact .head _ | exact .tail _ (.head _) | exact .tail _ (.tail _ (.head _)) | exact .tail _ (.tail _ (.tail _ (.head _))) | exact .tail _ (.tail _ (.tail _ (.tail _ (.head _))))) rfl) (op_val (.pointer (some ⟨b1, 10, none⟩)) (by go_simp) ⟨_, rfl, Below.refl _ _, rfl⟩)
      | 3, _ =>
        have k0 := ev (show a1.eval (.tmp 432) = _ from hV ⟨2, .data⟩ (by first | exact .head _ | exact .tail _ (.head _) | exact .tail _ (.tail _ (.head _)) | exact .tail _ (.tail _ (.tail _ (.head _))) | exact .tail _ (.tail _ (.tail _ (.tail _ (.head _))))) rfl)
        exact op_guardT rfl rfl rfl (show a1.eval (.tmp 431) = .bool true from hV ⟨1, .guard⟩ (by first | exact .head _ | exact .tail _ (.head _) | exact .tail _ (.tail _ (.head _)) | exact .tail _ (.tail _ (.tail _ (.head _))) | exact .tail _ (.tail _ (.tail _ (.tail _ (.head _))))) rfl) (op_val (.slice (some ⟨p1, o1, none⟩) m.cu.l.length m.cu.c) (by go_simp) ⟨_, rfl, Below.refl _ _, rfl⟩)
      | 4, _ =>
        exact op_guardT rfl rfl rfl (show a1.eval (.tmp 431) = .bool true from hV ⟨1, .guard⟩ (by first | exact .head _ | exact .tail _ (.head _) | exact .tail _ (.tail _ (.head _)) | exact .tail _ (.tail _ (.tail _ (.head _))) | exact .tail _ (.tail _ (.tail _ (.tail _ (.head _))))) rfl) (op_val (.int .i64 j) (by go_simp) ⟨_, rfl, Below.refl _ _, rfl⟩)
      | 5, _ =>
        have k0 := ev (show a1.eval (.tmp 433) = _ from hV ⟨3, .data⟩ (by first | exact .head _ | exact .tail _ (.head _) | exact .tail _ (.tail _ (.head _)) | exact .tail _ (.tail _ (.tail _ (.head _))) | exact .tail _ (.tail _ (.tail _ (.tail _ (.head _))))) rfl)
        have k1 := ev (show a1.eval (.tmp 434) = _ from hV ⟨4, .data⟩ (by first | exact .head _ | exact .tail _ (.head _) | exact .tail _ (.tail _ (.head _)) | exact .tail _ (.tail _ (.tail _ (.head _))) | exact .tail _ (.tail _ (.tail _ (.tail _ (.head _))))) rfl)
        exact op_guardT rfl rfl rfl (show a1.eval (.tmp 431) = .bool true from hV ⟨1, .guard⟩ (by first | exact .head _ | exact .tail _ (.head _) | exact .tail _ (.tail _ (.head _)) | exact .tail _ (.tail _ (.tail _ (.head _))) | exact .tail _ (.tail _ (.tail _ (.tail _ (.head _))))) rfl) (op_val (.pointer (some ⟨p1, o1 + j * 2, none⟩)) (by go_simp) ⟨_, rfl, Below.refl _ _, rfl⟩)
      | 6, _ =>
        have k0 := ev (show a1.eval (.tmp 435) = _ from hV ⟨5, .data⟩ (by first | exact .head _ | exact .tail _ (.head _) | exact .tail _ (.tail _ (.head _)) | exact .tail _ (.tail _ (.tail _ (.head _))) | exact .tail _ (.tail _ (.tail _ (.tail _ (.head _))))) rfl)
        exact op_guardT rfl rfl rfl (show a1.eval (.tmp 431) = .bool true from hV ⟨1, .guard⟩ (by first | exact .head _ | exact .tail _ (.head _) | exact .tail _ (.tail _ (.head _)) | exact .tail _ (.tail _ (.tail _ (.head _))) | exact .tail _ (.tail _ (.tail _ (.tail _ (.head _))))) rfl) (op_val (.pointer (some ⟨p1, o1 + j * 2, none⟩)) (by go_simp) ⟨_, rfl, Below.refl _ _, rfl⟩)
      | 7, _ =>
        have k0 := ev (show a1.eval (.tmp 436) = _ from hV ⟨6, .data⟩ (by first | exact .head _ | exact .tail _ (.head _) | exact .tail _ (.tail _ (.head _)) | exact .tail _ (.tail _ (.tail _ (.head _))) | exact .tail _ (.tail _ (.tail _ (.tail _ (.head _))))) rfl)
        exact op_guardT rfl rfl rfl (show a1.eval (.tmp 431) = .bool true from hV ⟨1, .guard⟩ (by first | exact .head _ | exact .tail _ (.head _) | exact .tail _ (.tail _ (.head _)) | exact .tail _ (.tail _ (.tail _ (.head _))) | exact .tail _ (.tail _ (.tail _ (.tail _ (.head _))))) rfl) (op_val (.string x.nm) (by go_simp) ⟨_, rfl, Below.refl _ _, rfl⟩)
      | 8, _ =>
        exact op_guardT rfl rfl rfl (show a1.eval (.tmp 431) = .bool true from hV ⟨1, .guard⟩ (by first | exact .head _ | exact .tail _ (.head _) | exact .tail _ (.tail _ (.head _)) | exact .tail _ (.tail _ (.tail _ (.head _))) | exact .tail _ (.tail _ (.tail _ (.tail _ (.head _))))) rfl) (op_val (.pointer (some ⟨b1 + 1, 10, none⟩)) (by go_simp) ⟨_, rfl, Below.refl _ _, rfl⟩)
      | 9, _ =>
        have k0 := ev (show a1.eval (.tmp 438) = _ from hV ⟨8, .data⟩ (by first | exact .head _ | exact .tail _ (.head _) | exact .tail _ (.tail _ (.head _)) | exact .tail _ (.tail _ (.tail _ (.head _))) | exact .tail _ (.tail _ (.tail _ (.tail _ (.head _))))) rfl)
        exact op_guardT rfl rfl rfl (show a1.eval (.tmp 431) = .bool true from hV ⟨1, .guard⟩ (by first | exact .head _ | exact .tail _ (.head _) | exact .tail _ (.tail _ (.head _)) | exact .tail _ (.tail _ (.tail _ (.head _))) | exact .tail _ (.tail _ (.tail _ (.tail _ (.head _))))) rfl) (op_val (.slice (some ⟨p2, o2, none⟩) n.cu.l.length n.cu.c) (by go_simp) ⟨_, rfl, Below.refl _ _, rfl⟩)
      | 10, _ =>
        exact op_guardT rfl rfl rfl (show a1.eval (.tmp 431) = .bool true from hV ⟨1, .guard⟩ (by first | exact .head _ | exact .tail _ (.head _) | exact .tail _ (.tail _ (.head _)) | exact .tail _ (.tail _ (.tail _ (.head _))) | exact .tail _ (.tail _ (.tail _ (.tail _ (.head _))))) rfl) (op_val (.int .i64 j) (by go_simp) ⟨_, rfl, Below.refl _ _, rfl⟩)
      | 11, _ =>
        have k0 := ev (show a1.eval (.tmp 439) = _ from hV ⟨9, .data⟩ (by first | exact .head _ | exact .tail _ (.head _) | exact .tail _ (.tail _ (.head _)) | exact .tail _ (.tail _ (.tail _ (.head _))) | exact .tail _ (.tail _ (.tail _ (.tail _ (.head _))))) rfl)
        have k1 := ev (show a1.eval (.tmp 440) = _ from hV ⟨10, .data⟩ (by first | exact .head _ | exact .tail _ (.head _) | exact .tail _ (.tail _ (.head _)) | exact .tail _ (.tail _ (.tail _ (.head _))) | exact .tail _ (.tail _ (.tail _ (.tail _ (.head _))))) rfl)
        exact op_guardT rfl rfl rfl (show a1.eval (.tmp 431) = .bool true from hV ⟨1, .guard⟩ (by first | exact .head _ | exact .tail _ (.head _) | exact .tail _ (.tail _ (.head _)) | exact .tail _ (.tail _ (.tail _ (.head _))) | exact .tail _ (.tail _ (.tail _ (.tail _ (.head _))))) rfl) (op_val (.pointer (some ⟨p2, o2 + j * 2, none⟩)) (by go_simp) ⟨_, rfl, Below.refl _ _, rfl⟩)
      | 12, _ =>
        have k0 := ev (show a1.eval (.tmp 441) = _ from hV ⟨11, .data⟩ (by first | exact .head _ | exact .tail _ (.head _) | exact .tail _ (.tail _ (.head _)) | exact .tail _ (.tail _ (.tail _ (.head _))) | exact .tail _ (.tail _ (.tail _ (.tail _ (.head _))))) rfl)
        exact op_guardT rfl rfl rfl (show a1.eval (.tmp 431) = .bool true from hV ⟨1, .guard⟩ (by first | exact .head _ | exact .tail _ (.head _) | exact .tail _ (.tail _ (.head _)) | exact .tail _ (.tail _ (.tail _ (.head _))) | exact .tail _ (.tail _ (.tail _ (.tail _ (.head _))))) rfl) (op_val (.pointer (some ⟨p2, o2 + j * 2, none⟩)) (by go_simp) ⟨_, rfl, Below.refl _ _, rfl⟩)
      | 13, _ =>
        have k0 := ev (show a1.eval (.tmp 442) = _ from hV ⟨12, .data⟩ (by first | exact .head _ | exact .tail _ (.head _) | exact .tail _ (.tail _ (.head _)) | exact .tail _ (.tail _ (.tail _ (.head _))) | exact .tail _ (.tail _ (.tail _ (.tail _ (.head _))))) rfl)
        exact op_guardT rfl rfl rfl (show a1.eval (.tmp 431) = .bool true from hV ⟨1, .guard⟩ (by first | exact .head _ | exact .tail _ (.head _) | exact .tail _ (.tail _ (.head _)) | exact .tail _ (.tail _ (.tail _ (.head _))) | exact .tail _ (.tail _ (.tail _ (.tail _ (.head _))))) rfl) (op_val (.string y.nm) (by go_simp) ⟨_, rfl, Below.refl _ _, rfl⟩)
      | 14, _ =>
        have heq := EQ_nm.out
        have k0 := ev (show a1.eval (.tmp 437) = _ from hV ⟨7, .data⟩ (by first | exact .head _ | exact .tail _ (.head _) | exact .tail _ (.tail _ (.head _)) | exact .tail _ (.tail _ (.tail _ (.head _))) | exact .tail _ (.tail _ (.tail _ (.tail _ (.head _))))) rfl)
        have k1 := ev (show a1.eval (.tmp 443) = _ from hV ⟨13, .data⟩ (by first | exact .head _ | exact .tail _ (.head _) | exact .tail _ (.tail _ (.head _)) | exact .tail _ (.tail _ (.tail _ (.head _))) | exact .tail _ (.tail _ (.tail _ (.tail _ (.head _))))) rfl)
        rw [← heq] at k1
        clear heq
        exact op_guardT rfl rfl rfl (show a1.eval (.tmp 431) = .bool true from hV ⟨1, .guard⟩ (by first | exact .head _ | exact .tail _ (.head _) | exact .tail _ (.tail _ (.head _)) | exact .tail _ (.tail _ (.tail _ (.head _))) | exact .tail _ (.tail _ (.tail _ (.tail _ (.head _))))) rfl) (op_val (.bool true) (by go_simp) ⟨_, rfl, Below.refl _ _, rfl⟩)
      | 15, _ =>
        have k0 := ev (show a1.eval (.tmp 431) = _ from hV ⟨1, .data⟩ (by first | exact .head _ | exact .tail _ (.head _) | exact .tail _ (.tail _ (.head _)) | exact .tail _ (.tail _ (.tail _ (.head _))) | exact .tail _ (.tail _ (.tail _ (.tail _ (.head _))))) rfl)
        have k1 := ev (show a1.eval (.tmp 444) = _ from hV ⟨14, .data⟩ (by first | exact .head _ | exact .tail _ (.head _) | exact .tail _ (.tail _ (.head _)) | exact .tail _ (.tail _ (.tail _ (.head _))) | exact .tail _ (.tail _ (.tail _ (.tail _ (.head _))))) rfl)
        exact op_plain rfl rfl (op_val (.bool true) (by go_simp) ⟨_, rfl, Below.refl _ _, rfl⟩)
      | 16, _ =>
        have k0 := ev (show a1.eval (.tmp 445) = _ from hV ⟨15, .data⟩ (by first | exact .head _ | exact .tail _ (.head _) | exact .tail _ (.tail _ (.head _)) | exact .tail _ (.tail _ (.tail _ (.head _))) | exact .tail _ (.tail _ (.tail _ (.tail _ (.head _))))) rfl)
        exact op_plain rfl rfl (op_val (.bool true) (by go_simp) ⟨_, rfl, Below.refl _ _, rfl⟩)
      | 17, _ =>
        exact op_guardT rfl rfl rfl (show a1.eval (.tmp 446) = .bool true from hV ⟨16, .guard⟩ (by first | exact .head _ | exact .tail _ (.head _) | exact .tail _ (.tail _ (.head _)) | exact .tail _ (.tail _ (.tail _ (.head _))) | exact .tail _ (.tail _ (.tail _ (.tail _ (.head _))))) rfl) (op_val (.pointer (some ⟨b1, 10, none⟩)) (by go_simp) ⟨_, rfl, Below.refl _ _, rfl⟩)
      | 18, _ =>
        have k0 := ev (show a1.eval (.tmp 447) = _ from hV ⟨17, .data⟩ (by first | exact .head _ | exact .tail _ (.head _) | exact .tail _ (.tail _ (.head _)) | exact .tail _ (.tail _ (.tail _ (.head _))) | exact .tail _ (.tail _ (.tail _ (.tail _ (.head _))))) rfl)
        exact op_guardT rfl rfl rfl (show a1.eval (.tmp 446) = .bool true from hV ⟨16, .guard⟩ (by first | exact .head _ | exact .tail _ (.head _) | exact .tail _ (.tail _ (.head _)) | exact .tail _ (.tail _ (.tail _ (.head _))) | exact .tail _ (.tail _ (.tail _ (.tail _ (.head _))))) rfl) (op_val (.slice (some ⟨p1, o1, none⟩) m.cu.l.length m.cu.c) (by go_simp) ⟨_, rfl, Below.refl _ _, rfl⟩)
      | 19, _ =>
        exact op_guardT rfl rfl rfl (show a1.eval (.tmp 446) = .bool true from hV ⟨16, .guard⟩ (by first | exact .head _ | exact .tail _ (.head _) | exact .tail _ (.tail _ (.head _)) | exact .tail _ (.tail _ (.tail _ (.head _))) | exact .tail _ (.tail _ (.tail _ (.tail _ (.head _))))) rfl) (op_val (.int .i64 j) (by go_simp) ⟨_, rfl, Below.refl _ _, rfl⟩)
      | 20, _ =>
        have k0 := ev (show a1.eval (.tmp 448) = _ from hV ⟨18, .data⟩ (by first | exact .head _ | exact .tail _ (.head _) | exact .tail _ (.tail _ (.head _)) | exact .tail _ (.tail _ (.tail _ (.head _))) | exact .tail _ (.tail _ (.tail _ (.tail _ (.head _))))) rfl)
        have k1 := ev (show a1.eval (.tmp 449) = _ from hV ⟨19, .data⟩ (by first | exact .head _ | exact .tail _ (.head _) | exact .tail _ (.tail _ (.head _)) | exact .tail _ (.tail _ (.tail _ (.head _))) | exact .tail _ (.tail _ (.tail _ (.tail _ (.head _))))) rfl)
        exact op_guardT rfl rfl rfl (show a1.eval (.tmp 446) = .bool true from hV ⟨16, .guard⟩ (by first | exact .head _ | exact .tail _ (.head _) | exact .tail _ (.tail _ (.head _)) | exact .tail _ (.tail _ (.tail _ (.head _))) | exact .tail _ (.tail _ (.tail _ (.tail _ (.head _))))) rfl) (op_val (.pointer (some ⟨p1, o1 + j * 2, none⟩)) (by go_simp) ⟨_, rfl, Below.refl _ _, rfl⟩)
      | 21, _ =>
        have k0 := ev (show a1.eval (.tmp 450) = _ from hV ⟨20, .data⟩ (by first | exact .head _ | exact .tail _ (.head _) | exact .tail _ (.tail _ (.head _)) | exact .tail _ (.tail _ (.tail _ (.head _))) | exact .tail _ (.tail _ (.tail _ (.tail _ (.head _))))) rfl)
        exact op_guardT rfl rfl rfl (show a1.eval (.tmp 446) = .bool true from hV ⟨16, .guard⟩ (by first | exact .head _ | exact .tail _ (.head _) | exact .tail _ (.tail _ (.head _)) | exact .tail _ (.tail _ (.tail _ (.head _))) | exact .tail _ (.tail _ (.tail _ (.tail _ (.head _))))) rfl) (op_val (.pointer (some ⟨p1, o1 + j * 2 + 1, none⟩)) (by go_simp) ⟨_, rfl, Below.refl _ _, rfl⟩)
      | 22, _ =>
        have k0 := ev (show a1.eval (.tmp 451) = _ from hV ⟨21, .data⟩ (by first | exact .head _ | exact .tail _ (.head _) | exact .tail _ (.tail _ (.head _)) | exact .tail _ (.tail _ (.tail _ (.head _))) | exact .tail _ (.tail _ (.tail _ (.tail _ (.head _))))) rfl)
        exact op_guardT rfl rfl rfl (show a1.eval (.tmp 446) = .bool true from hV ⟨16, .guard⟩ (by first | exact .head _ | exact .tail _ (.head _) | exact .tail _ (.tail _ (.head _)) | exact .tail _ (.tail _ (.tail _ (.head _))) | exact .tail _ (.tail _ (.tail _ (.tail _ (.head _))))) rfl) (op_val (.slice x.bs.A x.bs.bs.length x.bs.c) (by go_simp) ⟨_, rfl, Below.refl _ _, rfl⟩)
      | 23, _ =>
        have hcv := run_str_of (P := Tryz.prog) 59 9 5 Tryz.underlying59 Tryz.underlying5 Tryz.underlying9 hkx.bs.sl x.bs.c
        have k0 := ev (show a1.eval (.tmp 452) = _ from hV ⟨22, .data⟩ (by first | exact .head _ | exact .tail _ (.head _) | exact .tail _ (.tail _ (.head _)) | exact .tail _ (.tail _ (.tail _ (.head _))) | exact .tail _ (.tail _ (.tail _ (.tail _ (.head _))))) rfl)
        exact op_guardT rfl rfl rfl (show a1.eval (.tmp 446) = .bool true from hV ⟨16, .guard⟩ (by first | exact .head _ | exact .tail _ (.head _) | exact .tail _ (.tail _ (.head _)) | exact .tail _ (.tail _ (.tail _ (.head _))) | exact .tail _ (.tail _ (.tail _ (.tail _ (.head _))))) rfl) (op_val (.string ⟨x.bs.bs.toArray⟩) (by go_simp) ⟨_, rfl, Below.refl _ _, rfl⟩)
      | 24, _ =>
        exact op_guardT rfl rfl rfl (show a1.eval (.tmp 446) = .bool true from hV ⟨16, .guard⟩ (by first | exact .head _ | exact .tail _ (.head _) | exact .tail _ (.tail _ (.head _)) | exact .tail _ (.tail _ (.tail _ (.head _))) | exact .tail _ (.tail _ (.tail _ (.tail _ (.head _))))) rfl) (op_val (.pointer (some ⟨b1 + 1, 10, none⟩)) (by go_simp) ⟨_, rfl, Below.refl _ _, rfl⟩)
      | 25, _ =>
        have k0 := ev (show a1.eval (.tmp 454) = _ from hV ⟨24, .data⟩ (by first | exact .head _ | exact .tail _ (.head _) | exact .tail _ (.tail _ (.head _)) | exact .tail _ (.tail _ (.tail _ (.head _))) | exact .tail _ (.tail _ (.tail _ (.tail _ (.head _))))) rfl)
        exact op_guardT rfl rfl rfl (show a1.eval (.tmp 446) = .bool true from hV ⟨16, .guard⟩ (by first | exact .head _ | exact .tail _ (.head _) | exact .tail _ (.tail _ (.head _)) | exact .tail _ (.tail _ (.tail _ (.head _))) | exact .tail _ (.tail _ (.tail _ (.tail _ (.head _))))) rfl) (op_val (.slice (some ⟨p2, o2, none⟩) n.cu.l.length n.cu.c) (by go_simp) ⟨_, rfl, Below.refl _ _, rfl⟩)
      | 26, _ =>
        exact op_guardT rfl rfl rfl (show a1.eval (.tmp 446) = .bool true from hV ⟨16, .guard⟩ (by first | exact .head _ | exact .tail _ (.head _) | exact .tail _ (.tail _ (.head _)) | exact .tail _ (.tail _ (.tail _ (.head _))) | exact .tail _ (.tail _ (.tail _ (.tail _ (.head _))))) rfl) (op_val (.int .i64 j) (by go_simp) ⟨_, rfl, Below.refl _ _, rfl⟩)
      | 27, _ =>
        have k0 := ev (show a1.eval (.tmp 455) = _ from hV ⟨25, .data⟩ (by first | exact .head _ | exact .tail _ (.head _) | exact .tail _ (.tail _ (.head _)) | exact .tail _ (.tail _ (.tail _ (.head _))) | exact .tail _ (.tail _ (.tail _ (.tail _ (.head _))))) rfl)
        have k1 := ev (show a1.eval (.tmp 456) = _ from hV ⟨26, .data⟩ (by first | exact .head _ | exact .tail _ (.head _) | exact .tail _ (.tail _ (.head _)) | exact .tail _ (.tail _ (.tail _ (.head _))) | exact .tail _ (.tail _ (.tail _ (.tail _ (.head _))))) rfl)
        exact op_guardT rfl rfl rfl (show a1.eval (.tmp 446) = .bool true from hV ⟨16, .guard⟩ (by first | exact .head _ | exact .tail _ (.head _) | exact .tail _ (.tail _ (.head _)) | exact .tail _ (.tail _ (.tail _ (.head _))) | exact .tail _ (.tail _ (.tail _ (.tail _ (.head _))))) rfl) (op_val (.pointer (some ⟨p2, o2 + j * 2, none⟩)) (by go_simp) ⟨_, rfl, Below.refl _ _, rfl⟩)
      | 28, _ =>
        have k0 := ev (show a1.eval (.tmp 457) = _ from hV ⟨27, .data⟩ (by first | exact .head _ | exact .tail _ (.head _) | exact .tail _ (.tail _ (.head _)) | exact .tail _ (.tail _ (.tail _ (.head _))) | exact .tail _ (.tail _ (.tail _ (.tail _ (.head _))))) rfl)
        exact op_guardT rfl rfl rfl (show a1.eval (.tmp 446) = .bool true from hV ⟨16, .guard⟩ (by first | exact .head _ | exact .tail _ (.head _) | exact .tail _ (.tail _ (.head _)) | exact .tail _ (.tail _ (.tail _ (.head _))) | exact .tail _ (.tail _ (.tail _ (.tail _ (.head _))))) rfl) (op_val (.pointer (some ⟨p2, o2 + j * 2 + 1, none⟩)) (by go_simp) ⟨_, rfl, Below.refl _ _, rfl⟩)
      | 29, _ =>
        have k0 := ev (show a1.eval (.tmp 458) = _ from hV ⟨28, .data⟩ (by first | exact .head _ | exact .tail _ (.head _) | exact .tail _ (.tail _ (.head _)) | exact .tail _ (.tail _ (.tail _ (.head _))) | exact .tail _ (.tail _ (.tail _ (.tail _ (.head _))))) rfl)
        exact op_guardT rfl rfl rfl (show a1.eval (.tmp 446) = .bool true from hV ⟨16, .guard⟩ (by first | exact .head _ | exact .tail _ (.head _) | exact .tail _ (.tail _ (.head _)) | exact .tail _ (.tail _ (.tail _ (.head _))) | exact .tail _ (.tail _ (.tail _ (.tail _ (.head _))))) rfl) (op_val (.slice y.bs.A y.bs.bs.length y.bs.c) (by go_simp) ⟨_, rfl, Below.refl _ _, rfl⟩)
      | 30, _ =>
        have hcv := run_str_of (P := Tryz.prog) 59 9 5 Tryz.underlying59 Tryz.underlying5 Tryz.underlying9 hky.bs.sl y.bs.c
        have k0 := ev (show a1.eval (.tmp 459) = _ from hV ⟨29, .data⟩ (by first | exact .head _ | exact .tail _ (.head _) | exact .tail _ (.tail _ (.head _)) | exact .tail _ (.tail _ (.tail _ (.head _))) | exact .tail _ (.tail _ (.tail _ (.tail _ (.head _))))) rfl)
        exact op_guardT rfl rfl rfl (show a1.eval (.tmp 446) = .bool true from hV ⟨16, .guard⟩ (by first | exact .head _ | exact .tail _ (.head _) | exact .tail _ (.tail _ (.head _)) | exact .tail _ (.tail _ (.tail _ (.head _))) | exact .tail _ (.tail _ (.tail _ (.tail _ (.head _))))) rfl) (op_val (.string ⟨y.bs.bs.toArray⟩) (by go_simp) ⟨_, rfl, Below.refl _ _, rfl⟩)
      | 31, _ =>
        have heq := EQ_bs.out
        have k0 := ev (show a1.eval (.tmp 453) = _ from hV ⟨23, .data⟩ (by first | exact .head _ | exact .tail _ (.head _) | exact .tail _ (.tail _ (.head _)) | exact .tail _ (.tail _ (.tail _ (.head _))) | exact .tail _ (.tail _ (.tail _ (.tail _ (.head _))))) rfl)
        have k1 := ev (show a1.eval (.tmp 460) = _ from hV ⟨30, .data⟩ (by first | exact .head _ | exact .tail _ (.head _) | exact .tail _ (.tail _ (.head _)) | exact .tail _ (.tail _ (.tail _ (.head _))) | exact .tail _ (.tail _ (.tail _ (.tail _ (.head _))))) rfl)
        rw [← heq] at k1
        clear heq
        exact op_guardT rfl rfl rfl (show a1.eval (.tmp 446) = .bool true from hV ⟨16, .guard⟩ (by first | exact .head _ | exact .tail _ (.head _) | exact .tail _ (.tail _ (.head _)) | exact .tail _ (.tail _ (.tail _ (.head _))) | exact .tail _ (.tail _ (.tail _ (.tail _ (.head _))))) rfl) (op_val (.bool true) (by go_simp) ⟨_, rfl, Below.refl _ _, rfl⟩)
      | 32, _ =>
        have k0 := ev (show a1.eval (.tmp 446) = _ from hV ⟨16, .data⟩ (by first | exact .head _ | exact .tail _ (.head _) | exact .tail _ (.tail _ (.head _)) | exact .tail _ (.tail _ (.tail _ (.head _))) | exact .tail _ (.tail _ (.tail _ (.tail _ (.head _))))) rfl)
        have k1 := ev (show a1.eval (.tmp 461) = _ from hV ⟨31, .data⟩ (by first | exact .head _ | exact .tail _ (.head _) | exact .tail _ (.tail _ (.head _)) | exact .tail _ (.tail _ (.tail _ (.head _))) | exact .tail _ (.tail _ (.tail _ (.tail _ (.head _))))) rfl)
        exact op_plain rfl rfl (op_val (.bool true) (by go_simp) ⟨_, rfl, Below.refl _ _, rfl⟩)
      | k + 33, h => exact absurd h (by omega)
    · intro a1 w1 hB hV
      have hbw : Below wr.heap.size wr w1 := ((Below.refl wr.heap.size wr).drew).trans hB.below
      have x2 := (hB.same 2 (fun i _ => by omega)).trans e2
      have x3 := (hB.same 3 (fun i _ => by omega)).trans e3
      have x4 := (hB.same 15 (fun i _ => by omega)).trans e4
      have kz := ev (show a1.eval (.tmp 462) = .bool true from hV 32 (by omega))
      have HS1 := Lib.hid (hB.size.trans hsz)
      have hd1 := hB.defers.trans hd
      clear hV
      refine ready_one (i := 33) (by kernel_rfl) rfl rfl ?_
      refine op_val (.bool true) (by go_simp) ?_
      refine ready_none (by kernel_rfl) ?_
      change Exit.inBlock _ _ _ (a1.put (some 5) (.bool true)) w1
      generalize ha3 : a1.put (some 5) (.bool true) = a3
      have s3 : Hid (a3.tmps.size = 464) := Lib.hid (by rw [← ha3]; simp only [size_put, HS1.out])
      have d3 : a3.defers = [] := by rw [← ha3, defers_put, hd1]
      have F2 : (fun i => a3.eval (.tmp i)) 2 = .pointer (some ⟨b1, 0, none⟩) := by rw [← ha3]; simp only [eval_put]; exact x2
      have F3 : (fun i => a3.eval (.tmp i)) 3 = .pointer (some ⟨b1 + 1, 0, none⟩) := by rw [← ha3]; simp only [eval_put]; exact x3
      have F4 : (fun i => a3.eval (.tmp i)) 15 = .int .i64 j := by rw [← ha3]; simp only [eval_put]; exact x4
      have F5 : (fun i => a3.eval (.tmp i)) 5 = .bool true := by rw [← ha3]; simp [eval_put, HS1.out]
      rw [fz_of a3 s3.out d3]
      generalize (fun i => a3.eval (.tmp i)) = f' at F2 F3 F4 F5 ⊢
      clear s3 d3 ha3 a3 kz x2 x3 x4 HS1 hd1 hB e2 e3 e4 e5 hsz hd a1 a
      unfold fz
      simp only [F2, F3, F4, F5]
      go_wp2_with fail
      refine ⟨⟨⟨rfl, rfl, rfl, rfl, rfl⟩, j + 1, by show Value.int .i64 _ = _; go_num, by omega, hbel.trans (hbw.mono hbel.size)⟩, ?_⟩
      show m.cu.l.length - (intOf (.int .i64 _)).toNat < m.cu.l.length - (intOf (.int .i64 _)).toNat
      simp [intOf]
      omega
  · have HX := Lib.hid (fun a (hf : Fz b1 a) => hexit a wr hf hbel)
    clear hexit hkey
    conv => arg 2; whnf
    unfold fz
    simp only [h2, h3, h4, h5]
    go_wp2_with fail
    exact HX.out _ ⟨rfl, rfl, rfl, rfl, rfl⟩
end Go.Proofs.YtmdgemdollfnhaaGreatDoor
