/- A loop of the reference's Same, of two modules that say the same. -/
import Derived.Test.YtmdgemdollfnhaaGreatDoorTreeR
namespace Go.Proofs.YtmdgemdollfnhaaGreatDoor
open Go.RowKit Trx

/-- what each operation of the region leaves in its slot. -/
def W1 (m n : Mo) (b1 j : Nat) (x y : Ty) (p1 o1 p2 o2 : Nat) : Nat → Value → World → Prop
  | 0, v, _ => v = .bool true
  | 1, v, _ => v = .bool true
  | 2, v, _ => v = .pointer (some ⟨b1, 0, none⟩)
  | 3, v, _ => v = .slice (some ⟨p1, o1, none⟩) m.ty.l.length m.ty.c
  | 4, v, _ => v = .int .i64 j
  | 5, v, _ => v = .pointer (some ⟨p1, o1 + j * 2, none⟩)
  | 6, v, _ => v = .pointer (some ⟨p1, o1 + j * 2, none⟩)
  | 7, v, _ => v = .slice x.p.A x.p.zs.length x.p.c
  | 8, v, _ => v = .pointer (some ⟨b1 + 1, 0, none⟩)
  | 9, v, _ => v = .slice (some ⟨p2, o2, none⟩) n.ty.l.length n.ty.c
  | 10, v, _ => v = .int .i64 j
  | 11, v, _ => v = .pointer (some ⟨p2, o2 + j * 2, none⟩)
  | 12, v, _ => v = .pointer (some ⟨p2, o2 + j * 2, none⟩)
  | 13, v, _ => v = .slice y.p.A y.p.zs.length y.p.c
  | 14, v, _ => v = .bool true
  | 15, v, _ => v = .bool true
  | 16, v, _ => v = .bool true
  | 17, v, _ => v = .pointer (some ⟨b1, 0, none⟩)
  | 18, v, _ => v = .slice (some ⟨p1, o1, none⟩) m.ty.l.length m.ty.c
  | 19, v, _ => v = .int .i64 j
  | 20, v, _ => v = .pointer (some ⟨p1, o1 + j * 2, none⟩)
  | 21, v, _ => v = .pointer (some ⟨p1, o1 + j * 2 + 1, none⟩)
  | 22, v, _ => v = .slice x.r.A x.r.zs.length x.r.c
  | 23, v, _ => v = .pointer (some ⟨b1 + 1, 0, none⟩)
  | 24, v, _ => v = .slice (some ⟨p2, o2, none⟩) n.ty.l.length n.ty.c
  | 25, v, _ => v = .int .i64 j
  | 26, v, _ => v = .pointer (some ⟨p2, o2 + j * 2, none⟩)
  | 27, v, _ => v = .pointer (some ⟨p2, o2 + j * 2 + 1, none⟩)
  | 28, v, _ => v = .slice y.r.A y.r.zs.length y.r.c
  | 29, v, _ => v = .bool true
  | 30, v, _ => v = .bool true
  | _, _, _ => True
theorem W1.mono {m n : Mo} {b1 j : Nat} {x y : Ty} {p1 o1 p2 o2 : Nat} (i : Nat) (v : Value) (w w' : World) (h : W1 m n b1 j x y p1 o1 p2 o2 i v w) (hb : Below w.heap.size w w') : W1 m n b1 j x y p1 o1 p2 o2 i v w' := by
  unfold W1 at *
  split at h
  all_goals first | exact h | (obtain ⟨A, h1, h2⟩ := h; exact ⟨A, h1, h2.later hb⟩)

set_option maxHeartbeats 8000000 in
set_option maxRecDepth 100000 in
theorem sloop_ty (m n : Mo) (w0 : World) (b1 : Nat) (hC : SmC m n w0 b1) (Q0 : Exit → Act → World → Prop) (hexit : ∀ (a : Act) (wr : World), Fz b1 a → Below w0.heap.size w0 wr → Q0 (.exit 0) a wr)
    (a : Act) (w : World) (hf : Fz b1 a) (h4 : a.eval (.tmp 6) = .int .i64 0) (hb : Below w0.heap.size w0 w) : (Code.loop (smBody 0)).wp Tryz.prog Q0 a w := by
  have hkey := (keyM_iff m n).1 hC.key
  have hle : m.ty.l.length ≤ 9223372036854775807 := by have := Nat.le_trans hC.ok1.ty.le hC.ok1.ty.c; unfold maxLen at this; exact this
  refine wp_loop (fun a wr => Fz b1 a ∧ ∃ j : Nat, a.eval (.tmp 6) = .int .i64 j ∧ j ≤ m.ty.l.length ∧ Below w0.heap.size w0 wr) (fun a _ => m.ty.l.length - (intOf (a.eval (.tmp 6))).toNat) ⟨hf, 0, h4, by omega, hb⟩ ?_
  clear hf h4 hb a w
  rintro a wr ⟨hf, j, h4, hj, hbel⟩
  rw [fz_of a hf.size hf.defers]
  have h2 : (fun i => a.eval (.tmp i)) 2 = .pointer (some ⟨b1, 0, none⟩) := hf.e2
  have h3 : (fun i => a.eval (.tmp i)) 3 = .pointer (some ⟨b1 + 1, 0, none⟩) := hf.e3
  have h5 : (fun i => a.eval (.tmp i)) 5 = .bool true := hf.e5
  replace h4 : (fun i => a.eval (.tmp i)) 6 = .int .i64 j := h4
  generalize (fun i => a.eval (.tmp i)) = f at h2 h3 h4 h5 ⊢
  clear hf a
  have hl0 : b1 < wr.heap.size := Nat.lt_of_lt_of_le (Nat.lt_of_succ_lt hC.lt) hbel.size
  have hl1 : b1 + 1 < wr.heap.size := Nat.lt_of_lt_of_le hC.lt hbel.size
  have hc0 : wr.cell? ⟨b1, 0, none⟩ = some (.slice m.ty.A m.ty.l.length m.ty.c) := (hbel.cell (p := ⟨b1, 0, none⟩) (Nat.lt_of_succ_lt hC.lt)).trans (hC.box1 0 (by omega))
  by_cases hlt : j < m.ty.l.length
  · have hlt2 : j < n.ty.l.length := by
      have := hkey.2.1
      rw [key_len kTy this]; exact hlt
    have hc1 : wr.cell? ⟨b1 + 1, 0, none⟩ = some (.slice n.ty.A n.ty.l.length n.ty.c) := (hbel.cell (p := ⟨b1 + 1, 0, none⟩) hC.lt).trans (hC.box2 0 (by omega))
    obtain ⟨p1, o1, x, hA1, hx, hb1, hok1, hcell1⟩ := hC.ok1.ty.at_ hlt
    obtain ⟨p2, o2, y, hA2, hy, hb2, hok2, hcell2⟩ := hC.ok2.ty.at_ hlt2
    have hkk := key_at kTy hkey.2.1 hx hy
    obtain ⟨eq_p, eq_r⟩ : x.p.zs = y.p.zs ∧ x.r.zs = y.r.zs := by unfold kTy at hkk; simp at hkk; exact hkk
    clear hkk
    have EQ_p := Lib.hid eq_p
    clear eq_p
    have EQ_r := Lib.hid eq_r
    clear eq_r
    have q0 : wr.cell? ⟨p1, o1 + j * 2, none⟩ = some (.slice x.p.A x.p.zs.length x.p.c) := (hbel.cell (p := ⟨p1, _, none⟩) hb1).trans (hcell1 0 (by omega))
    have q1 : wr.cell? ⟨p1, o1 + j * 2 + 1, none⟩ = some (.slice x.r.A x.r.zs.length x.r.c) := (hbel.cell (p := ⟨p1, _, none⟩) hb1).trans (hcell1 1 (by omega))
    have r0 : wr.cell? ⟨p2, o2 + j * 2, none⟩ = some (.slice y.p.A y.p.zs.length y.p.c) := (hbel.cell (p := ⟨p2, _, none⟩) hb2).trans (hcell2 0 (by omega))
    have r1 : wr.cell? ⟨p2, o2 + j * 2 + 1, none⟩ = some (.slice y.r.A y.r.zs.length y.r.c) := (hbel.cell (p := ⟨p2, _, none⟩) hb2).trans (hcell2 1 (by omega))
    have hok1' := hok1.keep hbel.size (Below.kp hbel)
    have hok2' := hok2.keep hbel.size (Below.kp hbel)
    have hb1' := Nat.lt_of_lt_of_le hb1 hbel.size
    have hb2' := Nat.lt_of_lt_of_le hb2 hbel.size
    rw [hA1] at hc0
    rw [hA2] at hc1
    have HKY := Lib.hid hkey
    clear hkey hcell1 hcell2 hexit
    conv => arg 2; whnf
    unfold fz
    simp only [h2, h3, h4, h5]
    go_wp2_with fail
    refine gen_z 6 (v2 := .pointer (some ⟨b1, 0, none⟩)) (v3 := .pointer (some ⟨b1 + 1, 0, none⟩)) (v5 := .bool true) (vk := .int .i64 j) _ rfl rfl rfl rfl rfl rfl ?_
    intro a hsz hd e2 e3 e5 e4
    refine region_vals 31 32 (W1 m n b1 j x y p1 o1 p2 o2) (fun i => i + 118) a wr (by kernel_rfl) rfl (by omega) (by kernel_rfl) (by kernel_rfl) (by kernel_rfl) (by rw [hsz]; kernel_rfl) W1.mono ?_ ?_
    · intro i hi a1 w1 hB hV
      have hbw : Below wr.heap.size wr w1 := ((Below.refl wr.heap.size wr).drew).trans hB.below
      have z2 := ev ((hB.same 2 (fun i _ => by omega)).trans e2)
      have z3 := ev ((hB.same 3 (fun i _ => by omega)).trans e3)
      have z4 := ev ((hB.same 6 (fun i _ => by omega)).trans e4)
      have z5 := ev ((hB.same 5 (fun i _ => by omega)).trans e5)
      have d0 := (hbw.cell (p := ⟨b1, 0, none⟩) hl0).trans hc0
      have d1 := (hbw.cell (p := ⟨b1 + 1, 0, none⟩) hl1).trans hc1
      have u0 := (hbw.cell (p := ⟨p1, _, none⟩) hb1').trans q0
      have v0 := (hbw.cell (p := ⟨p2, _, none⟩) hb2').trans r0
      have u1 := (hbw.cell (p := ⟨p1, _, none⟩) hb1').trans q1
      have v1 := (hbw.cell (p := ⟨p2, _, none⟩) hb2').trans r1
      have hkx := hok1'.keep hbw.size (Below.kp hbw)
      have hky := hok2'.keep hbw.size (Below.kp hbw)
      match i, hi with
      | 0, _ =>
        exact op_plain rfl rfl (op_val (.bool true) (by go_simp) ⟨_, rfl, Below.refl _ _, rfl⟩)
      | 1, _ =>
        have k0 := ev (show a1.eval (.tmp 118) = _ from hV ⟨0, .data⟩ (by first | exact .head _ | exact .tail _ (.head _) | exact .tail _ (.tail _ (.head _)) | exact .tail _ (.tail _ (.tail _ (.head _))) | exact .tail _ (.tail _ (.tail _ (.tail _ (.head _))))) rfl)
        exact op_plain rfl rfl (op_val (.bool true) (by go_simp) ⟨_, rfl, Below.refl _ _, rfl⟩)
      | 2, _ =>
        exact op_guardT rfl rfl rfl (show a1.eval (.tmp 119) = .bool true from hV ⟨1, .guard⟩ (by first | exact .head _ | exact .tail _ (.head _) | exact .tail _ (.tail _ (.head _)) | exact .tail _ (.tail _ (.tail _ (.head _))) | exact .tail _ (.tail _ (.tail _ (.tail _ (.head _))))) rfl) (op_val (.pointer (some ⟨b1, 0, none⟩)) (by go_simp) ⟨_, rfl, Below.refl _ _, rfl⟩)
      | 3, _ =>
        have k0 := ev (show a1.eval (.tmp 120) = _ from hV ⟨2, .data⟩ (by first | exact .head _ | exact .tail _ (.head _) | exact .tail _ (.tail _ (.head _)) | exact .tail _ (.tail _ (.tail _ (.head _))) | exact .tail _ (.tail _ (.tail _ (.tail _ (.head _))))) rfl)
        exact op_guardT rfl rfl rfl (show a1.eval (.tmp 119) = .bool true from hV ⟨1, .guard⟩ (by first | exact .head _ | exact .tail _ (.head _) | exact .tail _ (.tail _ (.head _)) | exact .tail _ (.tail _ (.tail _ (.head _))) | exact .tail _ (.tail _ (.tail _ (.tail _ (.head _))))) rfl) (op_val (.slice (some ⟨p1, o1, none⟩) m.ty.l.length m.ty.c) (by go_simp) ⟨_, rfl, Below.refl _ _, rfl⟩)
      | 4, _ =>
        exact op_guardT rfl rfl rfl (show a1.eval (.tmp 119) = .bool true from hV ⟨1, .guard⟩ (by first | exact .head _ | exact .tail _ (.head _) | exact .tail _ (.tail _ (.head _)) | exact .tail _ (.tail _ (.tail _ (.head _))) | exact .tail _ (.tail _ (.tail _ (.tail _ (.head _))))) rfl) (op_val (.int .i64 j) (by go_simp) ⟨_, rfl, Below.refl _ _, rfl⟩)
      | 5, _ =>
        have k0 := ev (show a1.eval (.tmp 121) = _ from hV ⟨3, .data⟩ (by first | exact .head _ | exact .tail _ (.head _) | exact .tail _ (.tail _ (.head _)) | exact .tail _ (.tail _ (.tail _ (.head _))) | exact .tail _ (.tail _ (.tail _ (.tail _ (.head _))))) rfl)
        have k1 := ev (show a1.eval (.tmp 122) = _ from hV ⟨4, .data⟩ (by first | exact .head _ | exact .tail _ (.head _) | exact .tail _ (.tail _ (.head _)) | exact .tail _ (.tail _ (.tail _ (.head _))) | exact .tail _ (.tail _ (.tail _ (.tail _ (.head _))))) rfl)
        exact op_guardT rfl rfl rfl (show a1.eval (.tmp 119) = .bool true from hV ⟨1, .guard⟩ (by first | exact .head _ | exact .tail _ (.head _) | exact .tail _ (.tail _ (.head _)) | exact .tail _ (.tail _ (.tail _ (.head _))) | exact .tail _ (.tail _ (.tail _ (.tail _ (.head _))))) rfl) (op_val (.pointer (some ⟨p1, o1 + j * 2, none⟩)) (by go_simp) ⟨_, rfl, Below.refl _ _, rfl⟩)
      | 6, _ =>
        have k0 := ev (show a1.eval (.tmp 123) = _ from hV ⟨5, .data⟩ (by first | exact .head _ | exact .tail _ (.head _) | exact .tail _ (.tail _ (.head _)) | exact .tail _ (.tail _ (.tail _ (.head _))) | exact .tail _ (.tail _ (.tail _ (.tail _ (.head _))))) rfl)
        exact op_guardT rfl rfl rfl (show a1.eval (.tmp 119) = .bool true from hV ⟨1, .guard⟩ (by first | exact .head _ | exact .tail _ (.head _) | exact .tail _ (.tail _ (.head _)) | exact .tail _ (.tail _ (.tail _ (.head _))) | exact .tail _ (.tail _ (.tail _ (.tail _ (.head _))))) rfl) (op_val (.pointer (some ⟨p1, o1 + j * 2, none⟩)) (by go_simp) ⟨_, rfl, Below.refl _ _, rfl⟩)
      | 7, _ =>
        have k0 := ev (show a1.eval (.tmp 124) = _ from hV ⟨6, .data⟩ (by first | exact .head _ | exact .tail _ (.head _) | exact .tail _ (.tail _ (.head _)) | exact .tail _ (.tail _ (.tail _ (.head _))) | exact .tail _ (.tail _ (.tail _ (.tail _ (.head _))))) rfl)
        exact op_guardT rfl rfl rfl (show a1.eval (.tmp 119) = .bool true from hV ⟨1, .guard⟩ (by first | exact .head _ | exact .tail _ (.head _) | exact .tail _ (.tail _ (.head _)) | exact .tail _ (.tail _ (.tail _ (.head _))) | exact .tail _ (.tail _ (.tail _ (.tail _ (.head _))))) rfl) (op_val (.slice x.p.A x.p.zs.length x.p.c) (by go_simp) ⟨_, rfl, Below.refl _ _, rfl⟩)
      | 8, _ =>
        exact op_guardT rfl rfl rfl (show a1.eval (.tmp 119) = .bool true from hV ⟨1, .guard⟩ (by first | exact .head _ | exact .tail _ (.head _) | exact .tail _ (.tail _ (.head _)) | exact .tail _ (.tail _ (.tail _ (.head _))) | exact .tail _ (.tail _ (.tail _ (.tail _ (.head _))))) rfl) (op_val (.pointer (some ⟨b1 + 1, 0, none⟩)) (by go_simp) ⟨_, rfl, Below.refl _ _, rfl⟩)
      | 9, _ =>
        have k0 := ev (show a1.eval (.tmp 126) = _ from hV ⟨8, .data⟩ (by first | exact .head _ | exact .tail _ (.head _) | exact .tail _ (.tail _ (.head _)) | exact .tail _ (.tail _ (.tail _ (.head _))) | exact .tail _ (.tail _ (.tail _ (.tail _ (.head _))))) rfl)
        exact op_guardT rfl rfl rfl (show a1.eval (.tmp 119) = .bool true from hV ⟨1, .guard⟩ (by first | exact .head _ | exact .tail _ (.head _) | exact .tail _ (.tail _ (.head _)) | exact .tail _ (.tail _ (.tail _ (.head _))) | exact .tail _ (.tail _ (.tail _ (.tail _ (.head _))))) rfl) (op_val (.slice (some ⟨p2, o2, none⟩) n.ty.l.length n.ty.c) (by go_simp) ⟨_, rfl, Below.refl _ _, rfl⟩)
      | 10, _ =>
        exact op_guardT rfl rfl rfl (show a1.eval (.tmp 119) = .bool true from hV ⟨1, .guard⟩ (by first | exact .head _ | exact .tail _ (.head _) | exact .tail _ (.tail _ (.head _)) | exact .tail _ (.tail _ (.tail _ (.head _))) | exact .tail _ (.tail _ (.tail _ (.tail _ (.head _))))) rfl) (op_val (.int .i64 j) (by go_simp) ⟨_, rfl, Below.refl _ _, rfl⟩)
      | 11, _ =>
        have k0 := ev (show a1.eval (.tmp 127) = _ from hV ⟨9, .data⟩ (by first | exact .head _ | exact .tail _ (.head _) | exact .tail _ (.tail _ (.head _)) | exact .tail _ (.tail _ (.tail _ (.head _))) | exact .tail _ (.tail _ (.tail _ (.tail _ (.head _))))) rfl)
        have k1 := ev (show a1.eval (.tmp 128) = _ from hV ⟨10, .data⟩ (by first | exact .head _ | exact .tail _ (.head _) | exact .tail _ (.tail _ (.head _)) | exact .tail _ (.tail _ (.tail _ (.head _))) | exact .tail _ (.tail _ (.tail _ (.tail _ (.head _))))) rfl)
        exact op_guardT rfl rfl rfl (show a1.eval (.tmp 119) = .bool true from hV ⟨1, .guard⟩ (by first | exact .head _ | exact .tail _ (.head _) | exact .tail _ (.tail _ (.head _)) | exact .tail _ (.tail _ (.tail _ (.head _))) | exact .tail _ (.tail _ (.tail _ (.tail _ (.head _))))) rfl) (op_val (.pointer (some ⟨p2, o2 + j * 2, none⟩)) (by go_simp) ⟨_, rfl, Below.refl _ _, rfl⟩)
      | 12, _ =>
        have k0 := ev (show a1.eval (.tmp 129) = _ from hV ⟨11, .data⟩ (by first | exact .head _ | exact .tail _ (.head _) | exact .tail _ (.tail _ (.head _)) | exact .tail _ (.tail _ (.tail _ (.head _))) | exact .tail _ (.tail _ (.tail _ (.tail _ (.head _))))) rfl)
        exact op_guardT rfl rfl rfl (show a1.eval (.tmp 119) = .bool true from hV ⟨1, .guard⟩ (by first | exact .head _ | exact .tail _ (.head _) | exact .tail _ (.tail _ (.head _)) | exact .tail _ (.tail _ (.tail _ (.head _))) | exact .tail _ (.tail _ (.tail _ (.tail _ (.head _))))) rfl) (op_val (.pointer (some ⟨p2, o2 + j * 2, none⟩)) (by go_simp) ⟨_, rfl, Below.refl _ _, rfl⟩)
      | 13, _ =>
        have k0 := ev (show a1.eval (.tmp 130) = _ from hV ⟨12, .data⟩ (by first | exact .head _ | exact .tail _ (.head _) | exact .tail _ (.tail _ (.head _)) | exact .tail _ (.tail _ (.tail _ (.head _))) | exact .tail _ (.tail _ (.tail _ (.tail _ (.head _))))) rfl)
        exact op_guardT rfl rfl rfl (show a1.eval (.tmp 119) = .bool true from hV ⟨1, .guard⟩ (by first | exact .head _ | exact .tail _ (.head _) | exact .tail _ (.tail _ (.head _)) | exact .tail _ (.tail _ (.tail _ (.head _))) | exact .tail _ (.tail _ (.tail _ (.tail _ (.head _))))) rfl) (op_val (.slice y.p.A y.p.zs.length y.p.c) (by go_simp) ⟨_, rfl, Below.refl _ _, rfl⟩)
      | 14, _ =>
        have k0 := ev (show a1.eval (.tmp 125) = _ from hV ⟨7, .data⟩ (by first | exact .head _ | exact .tail _ (.head _) | exact .tail _ (.tail _ (.head _)) | exact .tail _ (.tail _ (.tail _ (.head _))) | exact .tail _ (.tail _ (.tail _ (.tail _ (.head _))))) rfl)
        have k1 := ev (show a1.eval (.tmp 131) = _ from hV ⟨13, .data⟩ (by first | exact .head _ | exact .tail _ (.head _) | exact .tail _ (.tail _ (.head _)) | exact .tail _ (.tail _ (.tail _ (.head _))) | exact .tail _ (.tail _ (.tail _ (.tail _ (.head _))))) rfl)
        have HQ := Lib.hid (Ints_eq x.p y.p w1 hkx.p hky.p EQ_p.out)
        refine op_guardT rfl rfl rfl (show a1.eval (.tmp 119) = .bool true from hV ⟨1, .guard⟩ (by first | exact .head _ | exact .tail _ (.head _) | exact .tail _ (.tail _ (.head _)) | exact .tail _ (.tail _ (.tail _ (.head _))) | exact .tail _ (.tail _ (.tail _ (.tail _ (.head _))))) rfl) ?_
        go_simp
        refine HQ.out.mono ?_
        rintro e w' ⟨rfl, hb⟩
        exact ⟨_, rfl, hb, rfl⟩
      | 15, _ =>
        have k0 := ev (show a1.eval (.tmp 119) = _ from hV ⟨1, .data⟩ (by first | exact .head _ | exact .tail _ (.head _) | exact .tail _ (.tail _ (.head _)) | exact .tail _ (.tail _ (.tail _ (.head _))) | exact .tail _ (.tail _ (.tail _ (.tail _ (.head _))))) rfl)
        have k1 := ev (show a1.eval (.tmp 132) = _ from hV ⟨14, .data⟩ (by first | exact .head _ | exact .tail _ (.head _) | exact .tail _ (.tail _ (.head _)) | exact .tail _ (.tail _ (.tail _ (.head _))) | exact .tail _ (.tail _ (.tail _ (.tail _ (.head _))))) rfl)
        exact op_plain rfl rfl (op_val (.bool true) (by go_simp) ⟨_, rfl, Below.refl _ _, rfl⟩)
      | 16, _ =>
        have k0 := ev (show a1.eval (.tmp 133) = _ from hV ⟨15, .data⟩ (by first | exact .head _ | exact .tail _ (.head _) | exact .tail _ (.tail _ (.head _)) | exact .tail _ (.tail _ (.tail _ (.head _))) | exact .tail _ (.tail _ (.tail _ (.tail _ (.head _))))) rfl)
        exact op_plain rfl rfl (op_val (.bool true) (by go_simp) ⟨_, rfl, Below.refl _ _, rfl⟩)
      | 17, _ =>
        exact op_guardT rfl rfl rfl (show a1.eval (.tmp 134) = .bool true from hV ⟨16, .guard⟩ (by first | exact .head _ | exact .tail _ (.head _) | exact .tail _ (.tail _ (.head _)) | exact .tail _ (.tail _ (.tail _ (.head _))) | exact .tail _ (.tail _ (.tail _ (.tail _ (.head _))))) rfl) (op_val (.pointer (some ⟨b1, 0, none⟩)) (by go_simp) ⟨_, rfl, Below.refl _ _, rfl⟩)
      | 18, _ =>
        have k0 := ev (show a1.eval (.tmp 135) = _ from hV ⟨17, .data⟩ (by first | exact .head _ | exact .tail _ (.head _) | exact .tail _ (.tail _ (.head _)) | exact .tail _ (.tail _ (.tail _ (.head _))) | exact .tail _ (.tail _ (.tail _ (.tail _ (.head _))))) rfl)
        exact op_guardT rfl rfl rfl (show a1.eval (.tmp 134) = .bool true from hV ⟨16, .guard⟩ (by first | exact .head _ | exact .tail _ (.head _) | exact .tail _ (.tail _ (.head _)) | exact .tail _ (.tail _ (.tail _ (.head _))) | exact .tail _ (.tail _ (.tail _ (.tail _ (.head _))))) rfl) (op_val (.slice (some ⟨p1, o1, none⟩) m.ty.l.length m.ty.c) (by go_simp) ⟨_, rfl, Below.refl _ _, rfl⟩)
      | 19, _ =>
        exact op_guardT rfl rfl rfl (show a1.eval (.tmp 134) = .bool true from hV ⟨16, .guard⟩ (by first | exact .head _ | exact .tail _ (.head _) | exact .tail _ (.tail _ (.head _)) | exact .tail _ (.tail _ (.tail _ (.head _))) | exact .tail _ (.tail _ (.tail _ (.tail _ (.head _))))) rfl) (op_val (.int .i64 j) (by go_simp) ⟨_, rfl, Below.refl _ _, rfl⟩)
      | 20, _ =>
        have k0 := ev (show a1.eval (.tmp 136) = _ from hV ⟨18, .data⟩ (by first | exact .head _ | exact .tail _ (.head _) | exact .tail _ (.tail _ (.head _)) | exact .tail _ (.tail _ (.tail _ (.head _))) | exact .tail _ (.tail _ (.tail _ (.tail _ (.head _))))) rfl)
        have k1 := ev (show a1.eval (.tmp 137) = _ from hV ⟨19, .data⟩ (by first | exact .head _ | exact .tail _ (.head _) | exact .tail _ (.tail _ (.head _)) | exact .tail _ (.tail _ (.tail _ (.head _))) | exact .tail _ (.tail _ (.tail _ (.tail _ (.head _))))) rfl)
        exact op_guardT rfl rfl rfl (show a1.eval (.tmp 134) = .bool true from hV ⟨16, .guard⟩ (by first | exact .head _ | exact .tail _ (.head _) | exact .tail _ (.tail _ (.head _)) | exact .tail _ (.tail _ (.tail _ (.head _))) | exact .tail _ (.tail _ (.tail _ (.tail _ (.head _))))) rfl) (op_val (.pointer (some ⟨p1, o1 + j * 2, none⟩)) (by go_simp) ⟨_, rfl, Below.refl _ _, rfl⟩)
      | 21, _ =>
        have k0 := ev (show a1.eval (.tmp 138) = _ from hV ⟨20, .data⟩ (by first | exact .head _ | exact .tail _ (.head _) | exact .tail _ (.tail _ (.head _)) | exact .tail _ (.tail _ (.tail _ (.head _))) | exact .tail _ (.tail _ (.tail _ (.tail _ (.head _))))) rfl)
        exact op_guardT rfl rfl rfl (show a1.eval (.tmp 134) = .bool true from hV ⟨16, .guard⟩ (by first | exact .head _ | exact .tail _ (.head _) | exact .tail _ (.tail _ (.head _)) | exact .tail _ (.tail _ (.tail _ (.head _))) | exact .tail _ (.tail _ (.tail _ (.tail _ (.head _))))) rfl) (op_val (.pointer (some ⟨p1, o1 + j * 2 + 1, none⟩)) (by go_simp) ⟨_, rfl, Below.refl _ _, rfl⟩)
      | 22, _ =>
        have k0 := ev (show a1.eval (.tmp 139) = _ from hV ⟨21, .data⟩ (by first | exact .head _ | exact .tail _ (.head _) | exact .tail _ (.tail _ (.head _)) | exact .tail _ (.tail _ (.tail _ (.head _))) | exact .tail _ (.tail _ (.tail _ (.tail _ (.head _))))) rfl)
        exact op_guardT rfl rfl rfl (show a1.eval (.tmp 134) = .bool true from hV ⟨16, .guard⟩ (by first | exact .head _ | exact .tail _ (.head _) | exact .tail _ (.tail _ (.head _)) | exact .tail _ (.tail _ (.tail _ (.head _))) | exact .tail _ (.tail _ (.tail _ (.tail _ (.head _))))) rfl) (op_val (.slice x.r.A x.r.zs.length x.r.c) (by go_simp) ⟨_, rfl, Below.refl _ _, rfl⟩)
      | 23, _ =>
        exact op_guardT rfl rfl rfl (show a1.eval (.tmp 134) = .bool true from hV ⟨16, .guard⟩ (by first | exact .head _ | exact .tail _ (.head _) | exact .tail _ (.tail _ (.head _)) | exact .tail _ (.tail _ (.tail _ (.head _))) | exact .tail _ (.tail _ (.tail _ (.tail _ (.head _))))) rfl) (op_val (.pointer (some ⟨b1 + 1, 0, none⟩)) (by go_simp) ⟨_, rfl, Below.refl _ _, rfl⟩)
      | 24, _ =>
        have k0 := ev (show a1.eval (.tmp 141) = _ from hV ⟨23, .data⟩ (by first | exact .head _ | exact .tail _ (.head _) | exact .tail _ (.tail _ (.head _)) | exact .tail _ (.tail _ (.tail _ (.head _))) | exact .tail _ (.tail _ (.tail _ (.tail _ (.head _))))) rfl)
        exact op_guardT rfl rfl rfl (show a1.eval (.tmp 134) = .bool true from hV ⟨16, .guard⟩ (by first | exact .head _ | exact .tail _ (.head _) | exact .tail _ (.tail _ (.head _)) | exact .tail _ (.tail _ (.tail _ (.head _))) | exact .tail _ (.tail _ (.tail _ (.tail _ (.head _))))) rfl) (op_val (.slice (some ⟨p2, o2, none⟩) n.ty.l.length n.ty.c) (by go_simp) ⟨_, rfl, Below.refl _ _, rfl⟩)
      | 25, _ =>
        exact op_guardT rfl rfl rfl (show a1.eval (.tmp 134) = .bool true from hV ⟨16, .guard⟩ (by first | exact .head _ | exact .tail _ (.head _) | exact .tail _ (.tail _ (.head _)) | exact .tail _ (.tail _ (.tail _ (.head _))) | exact .tail _ (.tail _ (.tail _ (.tail _ (.head _))))) rfl) (op_val (.int .i64 j) (by go_simp) ⟨_, rfl, Below.refl _ _, rfl⟩)
      | 26, _ =>
        have k0 := ev (show a1.eval (.tmp 142) = _ from hV ⟨24, .data⟩ (by first | exact .head _ | exact .tail _ (.head _) | exact .tail _ (.tail _ (.head _)) | exact .tail _ (.tail _ (.tail _ (.head _))) | exact .tail _ (.tail _ (.tail _ (.tail _ (.head _))))) rfl)
        have k1 := ev (show a1.eval (.tmp 143) = _ from hV ⟨25, .data⟩ (by first | exact .head _ | exact .tail _ (.head _) | exact .tail _ (.tail _ (.head _)) | exact .tail _ (.tail _ (.tail _ (.head _))) | exact .tail _ (.tail _ (.tail _ (.tail _ (.head _))))) rfl)
        exact op_guardT rfl rfl rfl (show a1.eval (.tmp 134) = .bool true from hV ⟨16, .guard⟩ (by first | exact .head _ | exact .tail _ (.head _) | exact .tail _ (.tail _ (.head _)) | exact .tail _ (.tail _ (.tail _ (.head _))) | exact .tail _ (.tail _ (.tail _ (.tail _ (.head _))))) rfl) (op_val (.pointer (some ⟨p2, o2 + j * 2, none⟩)) (by go_simp) ⟨_, rfl, Below.refl _ _, rfl⟩)
      | 27, _ =>
        have k0 := ev (show a1.eval (.tmp 144) = _ from hV ⟨26, .data⟩ (by first | exact .head _ | exact .tail _ (.head _) | exact .tail _ (.tail _ (.head _)) | exact .tail _ (.tail _ (.tail _ (.head _))) | exact .tail _ (.tail _ (.tail _ (.tail _ (.head _))))) rfl)
        exact op_guardT rfl rfl rfl (show a1.eval (.tmp 134) = .bool true from hV ⟨16, .guard⟩ (by first | exact .head _ | exact .tail _ (.head _) | exact .tail _ (.tail _ (.head _)) | exact .tail _ (.tail _ (.tail _ (.head _))) | exact .tail _ (.tail _ (.tail _ (.tail _ (.head _))))) rfl) (op_val (.pointer (some ⟨p2, o2 + j * 2 + 1, none⟩)) (by go_simp) ⟨_, rfl, Below.refl _ _, rfl⟩)
      | 28, _ =>
        have k0 := ev (show a1.eval (.tmp 145) = _ from hV ⟨27, .data⟩ (by first | exact .head _ | exact .tail _ (.head _) | exact .tail _ (.tail _ (.head _)) | exact .tail _ (.tail _ (.tail _ (.head _))) | exact .tail _ (.tail _ (.tail _ (.tail _ (.head _))))) rfl)
        exact op_guardT rfl rfl rfl (show a1.eval (.tmp 134) = .bool true from hV ⟨16, .guard⟩ (by first | exact .head _ | exact .tail _ (.head _) | exact .tail _ (.tail _ (.head _)) | exact .tail _ (.tail _ (.tail _ (.head _))) | exact .tail _ (.tail _ (.tail _ (.tail _ (.head _))))) rfl) (op_val (.slice y.r.A y.r.zs.length y.r.c) (by go_simp) ⟨_, rfl, Below.refl _ _, rfl⟩)
      | 29, _ =>
        have k0 := ev (show a1.eval (.tmp 140) = _ from hV ⟨22, .data⟩ (by first | exact .head _ | exact .tail _ (.head _) | exact .tail _ (.tail _ (.head _)) | exact .tail _ (.tail _ (.tail _ (.head _))) | exact .tail _ (.tail _ (.tail _ (.tail _ (.head _))))) rfl)
        have k1 := ev (show a1.eval (.tmp 146) = _ from hV ⟨28, .data⟩ (by first | exact .head _ | exact .tail _ (.head _) | exact .tail _ (.tail _ (.head _)) | exact .tail _ (.tail _ (.tail _ (.head _))) | exact .tail _ (.tail _ (.tail _ (.tail _ (.head _))))) rfl)
        have HQ := Lib.hid (Ints_eq x.r y.r w1 hkx.r hky.r EQ_r.out)
        refine op_guardT rfl rfl rfl (show a1.eval (.tmp 134) = .bool true from hV ⟨16, .guard⟩ (by first | exact .head _ | exact .tail _ (.head _) | exact .tail _ (.tail _ (.head _)) | exact .tail _ (.tail _ (.tail _ (.head _))) | exact .tail _ (.tail _ (.tail _ (.tail _ (.head _))))) rfl) ?_
        go_simp
        refine HQ.out.mono ?_
        rintro e w' ⟨rfl, hb⟩
        exact ⟨_, rfl, hb, rfl⟩
      | 30, _ =>
        have k0 := ev (show a1.eval (.tmp 134) = _ from hV ⟨16, .data⟩ (by first | exact .head _ | exact .tail _ (.head _) | exact .tail _ (.tail _ (.head _)) | exact .tail _ (.tail _ (.tail _ (.head _))) | exact .tail _ (.tail _ (.tail _ (.tail _ (.head _))))) rfl)
        have k1 := ev (show a1.eval (.tmp 147) = _ from hV ⟨29, .data⟩ (by first | exact .head _ | exact .tail _ (.head _) | exact .tail _ (.tail _ (.head _)) | exact .tail _ (.tail _ (.tail _ (.head _))) | exact .tail _ (.tail _ (.tail _ (.tail _ (.head _))))) rfl)
        exact op_plain rfl rfl (op_val (.bool true) (by go_simp) ⟨_, rfl, Below.refl _ _, rfl⟩)
      | k + 31, h => exact absurd h (by omega)
    · intro a1 w1 hB hV
      have hbw : Below wr.heap.size wr w1 := ((Below.refl wr.heap.size wr).drew).trans hB.below
      have x2 := (hB.same 2 (fun i _ => by omega)).trans e2
      have x3 := (hB.same 3 (fun i _ => by omega)).trans e3
      have x4 := (hB.same 6 (fun i _ => by omega)).trans e4
      have kz := ev (show a1.eval (.tmp 148) = .bool true from hV 30 (by omega))
      have HS1 := Lib.hid (hB.size.trans hsz)
      have hd1 := hB.defers.trans hd
      clear hV
      refine ready_one (i := 31) (by kernel_rfl) rfl rfl ?_
      refine op_val (.bool true) (by go_simp) ?_
      refine ready_none (by kernel_rfl) ?_
      change Exit.inBlock _ _ _ (a1.put (some 5) (.bool true)) w1
      generalize ha3 : a1.put (some 5) (.bool true) = a3
      have s3 : Hid (a3.tmps.size = 464) := Lib.hid (by rw [← ha3]; simp only [size_put, HS1.out])
      have d3 : a3.defers = [] := by rw [← ha3, defers_put, hd1]
      have F2 : (fun i => a3.eval (.tmp i)) 2 = .pointer (some ⟨b1, 0, none⟩) := by rw [← ha3]; simp only [eval_put]; exact x2
      have F3 : (fun i => a3.eval (.tmp i)) 3 = .pointer (some ⟨b1 + 1, 0, none⟩) := by rw [← ha3]; simp only [eval_put]; exact x3
      have F4 : (fun i => a3.eval (.tmp i)) 6 = .int .i64 j := by rw [← ha3]; simp only [eval_put]; exact x4
      have F5 : (fun i => a3.eval (.tmp i)) 5 = .bool true := by rw [← ha3]; simp [eval_put, HS1.out]
      rw [fz_of a3 s3.out d3]
      generalize (fun i => a3.eval (.tmp i)) = f' at F2 F3 F4 F5 ⊢
      clear s3 d3 ha3 a3 kz x2 x3 x4 HS1 hd1 hB e2 e3 e4 e5 hsz hd a1 a
      unfold fz
      simp only [F2, F3, F4, F5]
      go_wp2_with fail
      refine ⟨⟨⟨rfl, rfl, rfl, rfl, rfl⟩, j + 1, by show Value.int .i64 _ = _; go_num, by omega, hbel.trans (hbw.mono hbel.size)⟩, ?_⟩
      show m.ty.l.length - (intOf (.int .i64 _)).toNat < m.ty.l.length - (intOf (.int .i64 _)).toNat
      simp [intOf]
      omega
  · have HX := Lib.hid (fun a (hf : Fz b1 a) => hexit a wr hf hbel)
    clear hexit hkey
    conv => arg 2; whnf
    unfold fz
    simp only [h2, h3, h4, h5]
    go_wp2_with fail
    exact HX.out _ ⟨rfl, rfl, rfl, rfl, rfl⟩
end Go.Proofs.YtmdgemdollfnhaaGreatDoor

/- A loop of the reference's Same, of two modules that say the same. -/
namespace Go.Proofs.YtmdgemdollfnhaaGreatDoor
open Go.RowKit Trx

/-- what each operation of the region leaves in its slot. -/
def W2 (m n : Mo) (b1 j : Nat) (x y : Im) (p1 o1 p2 o2 : Nat) : Nat → Value → World → Prop
  | 0, v, _ => v = .bool true
  | 1, v, _ => v = .bool true
  | 2, v, _ => v = .pointer (some ⟨b1, 1, none⟩)
  | 3, v, _ => v = .slice (some ⟨p1, o1, none⟩) m.im.l.length m.im.c
  | 4, v, _ => v = .int .i64 j
  | 5, v, _ => v = .pointer (some ⟨p1, o1 + j * 8, none⟩)
  | 6, v, _ => v = .agg #[.string x.md, .string x.nm, .int .i64 x.kd, .int .i64 x.ty, .bool x.mu, .int .i64 x.lm.mn, .int .i64 x.lm.mx, .bool x.lm.hs]
  | 7, v, _ => v = .pointer (some ⟨b1 + 1, 1, none⟩)
  | 8, v, _ => v = .slice (some ⟨p2, o2, none⟩) n.im.l.length n.im.c
  | 9, v, _ => v = .int .i64 j
  | 10, v, _ => v = .pointer (some ⟨p2, o2 + j * 8, none⟩)
  | 11, v, _ => v = .agg #[.string x.md, .string x.nm, .int .i64 x.kd, .int .i64 x.ty, .bool x.mu, .int .i64 x.lm.mn, .int .i64 x.lm.mx, .bool x.lm.hs]
  | 12, v, _ => v = .bool true
  | 13, v, _ => v = .bool true
  | _, _, _ => True
theorem W2.mono {m n : Mo} {b1 j : Nat} {x y : Im} {p1 o1 p2 o2 : Nat} (i : Nat) (v : Value) (w w' : World) (h : W2 m n b1 j x y p1 o1 p2 o2 i v w) (hb : Below w.heap.size w w') : W2 m n b1 j x y p1 o1 p2 o2 i v w' := by
  unfold W2 at *
  split at h
  all_goals first | exact h | (obtain ⟨A, h1, h2⟩ := h; exact ⟨A, h1, h2.later hb⟩)

set_option maxHeartbeats 8000000 in
set_option maxRecDepth 100000 in
theorem sloop_im (m n : Mo) (w0 : World) (b1 : Nat) (hC : SmC m n w0 b1) (Q0 : Exit → Act → World → Prop) (hexit : ∀ (a : Act) (wr : World), Fz b1 a → Below w0.heap.size w0 wr → Q0 (.exit 2) a wr)
    (a : Act) (w : World) (hf : Fz b1 a) (h4 : a.eval (.tmp 7) = .int .i64 0) (hb : Below w0.heap.size w0 w) : (Code.loop (smBody 1)).wp Tryz.prog Q0 a w := by
  have hkey := (keyM_iff m n).1 hC.key
  have hle : m.im.l.length ≤ 9223372036854775807 := by have := Nat.le_trans hC.ok1.im.le hC.ok1.im.c; unfold maxLen at this; exact this
  refine wp_loop (fun a wr => Fz b1 a ∧ ∃ j : Nat, a.eval (.tmp 7) = .int .i64 j ∧ j ≤ m.im.l.length ∧ Below w0.heap.size w0 wr) (fun a _ => m.im.l.length - (intOf (a.eval (.tmp 7))).toNat) ⟨hf, 0, h4, by omega, hb⟩ ?_
  clear hf h4 hb a w
  rintro a wr ⟨hf, j, h4, hj, hbel⟩
  rw [fz_of a hf.size hf.defers]
  have h2 : (fun i => a.eval (.tmp i)) 2 = .pointer (some ⟨b1, 0, none⟩) := hf.e2
  have h3 : (fun i => a.eval (.tmp i)) 3 = .pointer (some ⟨b1 + 1, 0, none⟩) := hf.e3
  have h5 : (fun i => a.eval (.tmp i)) 5 = .bool true := hf.e5
  replace h4 : (fun i => a.eval (.tmp i)) 7 = .int .i64 j := h4
  generalize (fun i => a.eval (.tmp i)) = f at h2 h3 h4 h5 ⊢
  clear hf a
  have hl0 : b1 < wr.heap.size := Nat.lt_of_lt_of_le (Nat.lt_of_succ_lt hC.lt) hbel.size
  have hl1 : b1 + 1 < wr.heap.size := Nat.lt_of_lt_of_le hC.lt hbel.size
  have hc0 : wr.cell? ⟨b1, 1, none⟩ = some (.slice m.im.A m.im.l.length m.im.c) := (hbel.cell (p := ⟨b1, 1, none⟩) (Nat.lt_of_succ_lt hC.lt)).trans (hC.box1 1 (by omega))
  by_cases hlt : j < m.im.l.length
  · have hlt2 : j < n.im.l.length := by
      have := hkey.2.2.1
      rw [← this]; exact hlt
    have hc1 : wr.cell? ⟨b1 + 1, 1, none⟩ = some (.slice n.im.A n.im.l.length n.im.c) := (hbel.cell (p := ⟨b1 + 1, 1, none⟩) hC.lt).trans (hC.box2 1 (by omega))
    obtain ⟨p1, o1, x, hA1, hx, hb1, hok1, hcell1⟩ := hC.ok1.im.at_ hlt
    obtain ⟨p2, o2, y, hA2, hy, hb2, hok2, hcell2⟩ := hC.ok2.im.at_ hlt2
    obtain rfl : x = y := Option.some.inj (hx.symm.trans ((congrArg (fun l => l[j]?) hkey.2.2.1).trans hy))
    have q0 : wr.cell? ⟨p1, o1 + j * 8, none⟩ = some (.string x.md) := (hbel.cell (p := ⟨p1, _, none⟩) hb1).trans (hcell1 0 (by omega))
    have q1 : wr.cell? ⟨p1, o1 + j * 8 + 1, none⟩ = some (.string x.nm) := (hbel.cell (p := ⟨p1, _, none⟩) hb1).trans (hcell1 1 (by omega))
    have q2 : wr.cell? ⟨p1, o1 + j * 8 + 2, none⟩ = some (.int .i64 x.kd) := (hbel.cell (p := ⟨p1, _, none⟩) hb1).trans (hcell1 2 (by omega))
    have q3 : wr.cell? ⟨p1, o1 + j * 8 + 3, none⟩ = some (.int .i64 x.ty) := (hbel.cell (p := ⟨p1, _, none⟩) hb1).trans (hcell1 3 (by omega))
    have q4 : wr.cell? ⟨p1, o1 + j * 8 + 4, none⟩ = some (.bool x.mu) := (hbel.cell (p := ⟨p1, _, none⟩) hb1).trans (hcell1 4 (by omega))
    have q5 : wr.cell? ⟨p1, o1 + j * 8 + 5, none⟩ = some (.int .i64 x.lm.mn) := (hbel.cell (p := ⟨p1, _, none⟩) hb1).trans (hcell1 5 (by omega))
    have q6 : wr.cell? ⟨p1, o1 + j * 8 + 6, none⟩ = some (.int .i64 x.lm.mx) := (hbel.cell (p := ⟨p1, _, none⟩) hb1).trans (hcell1 6 (by omega))
    have q7 : wr.cell? ⟨p1, o1 + j * 8 + 7, none⟩ = some (.bool x.lm.hs) := (hbel.cell (p := ⟨p1, _, none⟩) hb1).trans (hcell1 7 (by omega))
    have r0 : wr.cell? ⟨p2, o2 + j * 8, none⟩ = some (.string x.md) := (hbel.cell (p := ⟨p2, _, none⟩) hb2).trans (hcell2 0 (by omega))
    have r1 : wr.cell? ⟨p2, o2 + j * 8 + 1, none⟩ = some (.string x.nm) := (hbel.cell (p := ⟨p2, _, none⟩) hb2).trans (hcell2 1 (by omega))
    have r2 : wr.cell? ⟨p2, o2 + j * 8 + 2, none⟩ = some (.int .i64 x.kd) := (hbel.cell (p := ⟨p2, _, none⟩) hb2).trans (hcell2 2 (by omega))
    have r3 : wr.cell? ⟨p2, o2 + j * 8 + 3, none⟩ = some (.int .i64 x.ty) := (hbel.cell (p := ⟨p2, _, none⟩) hb2).trans (hcell2 3 (by omega))
    have r4 : wr.cell? ⟨p2, o2 + j * 8 + 4, none⟩ = some (.bool x.mu) := (hbel.cell (p := ⟨p2, _, none⟩) hb2).trans (hcell2 4 (by omega))
    have r5 : wr.cell? ⟨p2, o2 + j * 8 + 5, none⟩ = some (.int .i64 x.lm.mn) := (hbel.cell (p := ⟨p2, _, none⟩) hb2).trans (hcell2 5 (by omega))
    have r6 : wr.cell? ⟨p2, o2 + j * 8 + 6, none⟩ = some (.int .i64 x.lm.mx) := (hbel.cell (p := ⟨p2, _, none⟩) hb2).trans (hcell2 6 (by omega))
    have r7 : wr.cell? ⟨p2, o2 + j * 8 + 7, none⟩ = some (.bool x.lm.hs) := (hbel.cell (p := ⟨p2, _, none⟩) hb2).trans (hcell2 7 (by omega))
    have hb1' := Nat.lt_of_lt_of_le hb1 hbel.size
    have hb2' := Nat.lt_of_lt_of_le hb2 hbel.size
    rw [hA1] at hc0
    rw [hA2] at hc1
    have HKY := Lib.hid hkey
    clear hkey hcell1 hcell2 hexit
    conv => arg 2; whnf
    unfold fz
    simp only [h2, h3, h4, h5]
    go_wp2_with fail
    refine gen_z 7 (v2 := .pointer (some ⟨b1, 0, none⟩)) (v3 := .pointer (some ⟨b1 + 1, 0, none⟩)) (v5 := .bool true) (vk := .int .i64 j) _ rfl rfl rfl rfl rfl rfl ?_
    intro a hsz hd e2 e3 e5 e4
    refine region_vals 14 15 (W2 m n b1 j x x p1 o1 p2 o2) (fun i => i + 156) a wr (by kernel_rfl) rfl (by omega) (by kernel_rfl) (by kernel_rfl) (by kernel_rfl) (by rw [hsz]; kernel_rfl) W2.mono ?_ ?_
    · intro i hi a1 w1 hB hV
      have hbw : Below wr.heap.size wr w1 := ((Below.refl wr.heap.size wr).drew).trans hB.below
      have z2 := ev ((hB.same 2 (fun i _ => by omega)).trans e2)
      have z3 := ev ((hB.same 3 (fun i _ => by omega)).trans e3)
      have z4 := ev ((hB.same 7 (fun i _ => by omega)).trans e4)
      have z5 := ev ((hB.same 5 (fun i _ => by omega)).trans e5)
      have d0 := (hbw.cell (p := ⟨b1, 1, none⟩) hl0).trans hc0
      have d1 := (hbw.cell (p := ⟨b1 + 1, 1, none⟩) hl1).trans hc1
      have u0 := (hbw.cell (p := ⟨p1, _, none⟩) hb1').trans q0
      have v0 := (hbw.cell (p := ⟨p2, _, none⟩) hb2').trans r0
      have u1 := (hbw.cell (p := ⟨p1, _, none⟩) hb1').trans q1
      have v1 := (hbw.cell (p := ⟨p2, _, none⟩) hb2').trans r1
      have u2 := (hbw.cell (p := ⟨p1, _, none⟩) hb1').trans q2
      have v2 := (hbw.cell (p := ⟨p2, _, none⟩) hb2').trans r2
      have u3 := (hbw.cell (p := ⟨p1, _, none⟩) hb1').trans q3
      have v3 := (hbw.cell (p := ⟨p2, _, none⟩) hb2').trans r3
      have u4 := (hbw.cell (p := ⟨p1, _, none⟩) hb1').trans q4
      have v4 := (hbw.cell (p := ⟨p2, _, none⟩) hb2').trans r4
      have u5 := (hbw.cell (p := ⟨p1, _, none⟩) hb1').trans q5
      have v5 := (hbw.cell (p := ⟨p2, _, none⟩) hb2').trans r5
      have u6 := (hbw.cell (p := ⟨p1, _, none⟩) hb1').trans q6
      have v6 := (hbw.cell (p := ⟨p2, _, none⟩) hb2').trans r6
      have u7 := (hbw.cell (p := ⟨p1, _, none⟩) hb1').trans q7
      have v7 := (hbw.cell (p := ⟨p2, _, none⟩) hb2').trans r7
      match i, hi with
      | 0, _ =>
        exact op_plain rfl rfl (op_val (.bool true) (by go_simp) ⟨_, rfl, Below.refl _ _, rfl⟩)
      | 1, _ =>
        have k0 := ev (show a1.eval (.tmp 156) = _ from hV ⟨0, .data⟩ (by first | exact .head _ | exact .tail _ (.head _) | exact .tail _ (.tail _ (.head _)) | exact .tail _ (.tail _ (.tail _ (.head _))) | exact .tail _ (.tail _ (.tail _ (.tail _ (.head _))))) rfl)
        exact op_plain rfl rfl (op_val (.bool true) (by go_simp) ⟨_, rfl, Below.refl _ _, rfl⟩)
      | 2, _ =>
        exact op_guardT rfl rfl rfl (show a1.eval (.tmp 157) = .bool true from hV ⟨1, .guard⟩ (by first | exact .head _ | exact .tail _ (.head _) | exact .tail _ (.tail _ (.head _)) | exact .tail _ (.tail _ (.tail _ (.head _))) | exact .tail _ (.tail _ (.tail _ (.tail _ (.head _))))) rfl) (op_val (.pointer (some ⟨b1, 1, none⟩)) (by go_simp) ⟨_, rfl, Below.refl _ _, rfl⟩)
      | 3, _ =>
        have k0 := ev (show a1.eval (.tmp 158) = _ from hV ⟨2, .data⟩ (by first | exact .head _ | exact .tail _ (.head _) | exact .tail _ (.tail _ (.head _)) | exact .tail _ (.tail _ (.tail _ (.head _))) | exact .tail _ (.tail _ (.tail _ (.tail _ (.head _))))) rfl)
        exact op_guardT rfl rfl rfl (show a1.eval (.tmp 157) = .bool true from hV ⟨1, .guard⟩ (by first | exact .head _ | exact .tail _ (.head _) | exact .tail _ (.tail _ (.head _)) | exact .tail _ (.tail _ (.tail _ (.head _))) | exact .tail _ (.tail _ (.tail _ (.tail _ (.head _))))) rfl) (op_val (.slice (some ⟨p1, o1, none⟩) m.im.l.length m.im.c) (by go_simp) ⟨_, rfl, Below.refl _ _, rfl⟩)
      | 4, _ =>
        exact op_guardT rfl rfl rfl (show a1.eval (.tmp 157) = .bool true from hV ⟨1, .guard⟩ (by first | exact .head _ | exact .tail _ (.head _) | exact .tail _ (.tail _ (.head _)) | exact .tail _ (.tail _ (.tail _ (.head _))) | exact .tail _ (.tail _ (.tail _ (.tail _ (.head _))))) rfl) (op_val (.int .i64 j) (by go_simp) ⟨_, rfl, Below.refl _ _, rfl⟩)
      | 5, _ =>
        have k0 := ev (show a1.eval (.tmp 159) = _ from hV ⟨3, .data⟩ (by first | exact .head _ | exact .tail _ (.head _) | exact .tail _ (.tail _ (.head _)) | exact .tail _ (.tail _ (.tail _ (.head _))) | exact .tail _ (.tail _ (.tail _ (.tail _ (.head _))))) rfl)
        have k1 := ev (show a1.eval (.tmp 160) = _ from hV ⟨4, .data⟩ (by first | exact .head _ | exact .tail _ (.head _) | exact .tail _ (.tail _ (.head _)) | exact .tail _ (.tail _ (.tail _ (.head _))) | exact .tail _ (.tail _ (.tail _ (.tail _ (.head _))))) rfl)
        exact op_guardT rfl rfl rfl (show a1.eval (.tmp 157) = .bool true from hV ⟨1, .guard⟩ (by first | exact .head _ | exact .tail _ (.head _) | exact .tail _ (.tail _ (.head _)) | exact .tail _ (.tail _ (.tail _ (.head _))) | exact .tail _ (.tail _ (.tail _ (.tail _ (.head _))))) rfl) (op_val (.pointer (some ⟨p1, o1 + j * 8, none⟩)) (by go_simp) ⟨_, rfl, Below.refl _ _, rfl⟩)
      | 6, _ =>
        have k0 := ev (show a1.eval (.tmp 161) = _ from hV ⟨5, .data⟩ (by first | exact .head _ | exact .tail _ (.head _) | exact .tail _ (.tail _ (.head _)) | exact .tail _ (.tail _ (.tail _ (.head _))) | exact .tail _ (.tail _ (.tail _ (.tail _ (.head _))))) rfl)
        exact op_guardT rfl rfl rfl (show a1.eval (.tmp 157) = .bool true from hV ⟨1, .guard⟩ (by first | exact .head _ | exact .tail _ (.head _) | exact .tail _ (.tail _ (.head _)) | exact .tail _ (.tail _ (.tail _ (.head _))) | exact .tail _ (.tail _ (.tail _ (.tail _ (.head _))))) rfl) (op_val (.agg #[.string x.md, .string x.nm, .int .i64 x.kd, .int .i64 x.ty, .bool x.mu, .int .i64 x.lm.mn, .int .i64 x.lm.mx, .bool x.lm.hs]) (by go_simp) ⟨_, rfl, Below.refl _ _, rfl⟩)
      | 7, _ =>
        exact op_guardT rfl rfl rfl (show a1.eval (.tmp 157) = .bool true from hV ⟨1, .guard⟩ (by first | exact .head _ | exact .tail _ (.head _) | exact .tail _ (.tail _ (.head _)) | exact .tail _ (.tail _ (.tail _ (.head _))) | exact .tail _ (.tail _ (.tail _ (.tail _ (.head _))))) rfl) (op_val (.pointer (some ⟨b1 + 1, 1, none⟩)) (by go_simp) ⟨_, rfl, Below.refl _ _, rfl⟩)
      | 8, _ =>
        have k0 := ev (show a1.eval (.tmp 163) = _ from hV ⟨7, .data⟩ (by first | exact .head _ | exact .tail _ (.head _) | exact .tail _ (.tail _ (.head _)) | exact .tail _ (.tail _ (.tail _ (.head _))) | exact .tail _ (.tail _ (.tail _ (.tail _ (.head _))))) rfl)
        exact op_guardT rfl rfl rfl (show a1.eval (.tmp 157) = .bool true from hV ⟨1, .guard⟩ (by first | exact .head _ | exact .tail _ (.head _) | exact .tail _ (.tail _ (.head _)) | exact .tail _ (.tail _ (.tail _ (.head _))) | exact .tail _ (.tail _ (.tail _ (.tail _ (.head _))))) rfl) (op_val (.slice (some ⟨p2, o2, none⟩) n.im.l.length n.im.c) (by go_simp) ⟨_, rfl, Below.refl _ _, rfl⟩)
      | 9, _ =>
        exact op_guardT rfl rfl rfl (show a1.eval (.tmp 157) = .bool true from hV ⟨1, .guard⟩ (by first | exact .head _ | exact .tail _ (.head _) | exact .tail _ (.tail _ (.head _)) | exact .tail _ (.tail _ (.tail _ (.head _))) | exact .tail _ (.tail _ (.tail _ (.tail _ (.head _))))) rfl) (op_val (.int .i64 j) (by go_simp) ⟨_, rfl, Below.refl _ _, rfl⟩)
      | 10, _ =>
        have k0 := ev (show a1.eval (.tmp 164) = _ from hV ⟨8, .data⟩ (by first | exact .head _ | exact .tail _ (.head _) | exact .tail _ (.tail _ (.head _)) | exact .tail _ (.tail _ (.tail _ (.head _))) | exact .tail _ (.tail _ (.tail _ (.tail _ (.head _))))) rfl)
        have k1 := ev (show a1.eval (.tmp 165) = _ from hV ⟨9, .data⟩ (by first | exact .head _ | exact .tail _ (.head _) | exact .tail _ (.tail _ (.head _)) | exact .tail _ (.tail _ (.tail _ (.head _))) | exact .tail _ (.tail _ (.tail _ (.tail _ (.head _))))) rfl)
        exact op_guardT rfl rfl rfl (show a1.eval (.tmp 157) = .bool true from hV ⟨1, .guard⟩ (by first | exact .head _ | exact .tail _ (.head _) | exact .tail _ (.tail _ (.head _)) | exact .tail _ (.tail _ (.tail _ (.head _))) | exact .tail _ (.tail _ (.tail _ (.tail _ (.head _))))) rfl) (op_val (.pointer (some ⟨p2, o2 + j * 8, none⟩)) (by go_simp) ⟨_, rfl, Below.refl _ _, rfl⟩)
      | 11, _ =>
        have k0 := ev (show a1.eval (.tmp 166) = _ from hV ⟨10, .data⟩ (by first | exact .head _ | exact .tail _ (.head _) | exact .tail _ (.tail _ (.head _)) | exact .tail _ (.tail _ (.tail _ (.head _))) | exact .tail _ (.tail _ (.tail _ (.tail _ (.head _))))) rfl)
        exact op_guardT rfl rfl rfl (show a1.eval (.tmp 157) = .bool true from hV ⟨1, .guard⟩ (by first | exact .head _ | exact .tail _ (.head _) | exact .tail _ (.tail _ (.head _)) | exact .tail _ (.tail _ (.tail _ (.head _))) | exact .tail _ (.tail _ (.tail _ (.tail _ (.head _))))) rfl) (op_val (.agg #[.string x.md, .string x.nm, .int .i64 x.kd, .int .i64 x.ty, .bool x.mu, .int .i64 x.lm.mn, .int .i64 x.lm.mx, .bool x.lm.hs]) (by go_simp) ⟨_, rfl, Below.refl _ _, rfl⟩)
      | 12, _ =>
        have k0 := ev (show a1.eval (.tmp 162) = _ from hV ⟨6, .data⟩ (by first | exact .head _ | exact .tail _ (.head _) | exact .tail _ (.tail _ (.head _)) | exact .tail _ (.tail _ (.tail _ (.head _))) | exact .tail _ (.tail _ (.tail _ (.tail _ (.head _))))) rfl)
        have k1 := ev (show a1.eval (.tmp 167) = _ from hV ⟨11, .data⟩ (by first | exact .head _ | exact .tail _ (.head _) | exact .tail _ (.tail _ (.head _)) | exact .tail _ (.tail _ (.tail _ (.head _))) | exact .tail _ (.tail _ (.tail _ (.tail _ (.head _))))) rfl)
        exact op_guardT rfl rfl rfl (show a1.eval (.tmp 157) = .bool true from hV ⟨1, .guard⟩ (by first | exact .head _ | exact .tail _ (.head _) | exact .tail _ (.tail _ (.head _)) | exact .tail _ (.tail _ (.tail _ (.head _))) | exact .tail _ (.tail _ (.tail _ (.tail _ (.head _))))) rfl) (op_val (.bool true) (by go_simp) ⟨_, rfl, Below.refl _ _, rfl⟩)
      | 13, _ =>
        have k0 := ev (show a1.eval (.tmp 157) = _ from hV ⟨1, .data⟩ (by first | exact .head _ | exact .tail _ (.head _) | exact .tail _ (.tail _ (.head _)) | exact .tail _ (.tail _ (.tail _ (.head _))) | exact .tail _ (.tail _ (.tail _ (.tail _ (.head _))))) rfl)
        have k1 := ev (show a1.eval (.tmp 168) = _ from hV ⟨12, .data⟩ (by first | exact .head _ | exact .tail _ (.head _) | exact .tail _ (.tail _ (.head _)) | exact .tail _ (.tail _ (.tail _ (.head _))) | exact .tail _ (.tail _ (.tail _ (.tail _ (.head _))))) rfl)
        exact op_plain rfl rfl (op_val (.bool true) (by go_simp) ⟨_, rfl, Below.refl _ _, rfl⟩)
      | k + 14, h => exact absurd h (by omega)
    · intro a1 w1 hB hV
      have hbw : Below wr.heap.size wr w1 := ((Below.refl wr.heap.size wr).drew).trans hB.below
      have x2 := (hB.same 2 (fun i _ => by omega)).trans e2
      have x3 := (hB.same 3 (fun i _ => by omega)).trans e3
      have x4 := (hB.same 7 (fun i _ => by omega)).trans e4
      have kz := ev (show a1.eval (.tmp 169) = .bool true from hV 13 (by omega))
      have HS1 := Lib.hid (hB.size.trans hsz)
      have hd1 := hB.defers.trans hd
      clear hV
      refine ready_one (i := 14) (by kernel_rfl) rfl rfl ?_
      refine op_val (.bool true) (by go_simp) ?_
      refine ready_none (by kernel_rfl) ?_
      change Exit.inBlock _ _ _ (a1.put (some 5) (.bool true)) w1
      generalize ha3 : a1.put (some 5) (.bool true) = a3
      have s3 : Hid (a3.tmps.size = 464) := Lib.hid (by rw [← ha3]; simp only [size_put, HS1.out])
      have d3 : a3.defers = [] := by rw [← ha3, defers_put, hd1]
      have F2 : (fun i => a3.eval (.tmp i)) 2 = .pointer (some ⟨b1, 0, none⟩) := by rw [← ha3]; simp only [eval_put]; exact x2
      have F3 : (fun i => a3.eval (.tmp i)) 3 = .pointer (some ⟨b1 + 1, 0, none⟩) := by rw [← ha3]; simp only [eval_put]; exact x3
      have F4 : (fun i => a3.eval (.tmp i)) 7 = .int .i64 j := by rw [← ha3]; simp only [eval_put]; exact x4
      have F5 : (fun i => a3.eval (.tmp i)) 5 = .bool true := by rw [← ha3]; simp [eval_put, HS1.out]
      rw [fz_of a3 s3.out d3]
      generalize (fun i => a3.eval (.tmp i)) = f' at F2 F3 F4 F5 ⊢
      clear s3 d3 ha3 a3 kz x2 x3 x4 HS1 hd1 hB e2 e3 e4 e5 hsz hd a1 a
      unfold fz
      simp only [F2, F3, F4, F5]
      go_wp2_with fail
      refine ⟨⟨⟨rfl, rfl, rfl, rfl, rfl⟩, j + 1, by show Value.int .i64 _ = _; go_num, by omega, hbel.trans (hbw.mono hbel.size)⟩, ?_⟩
      show m.im.l.length - (intOf (.int .i64 _)).toNat < m.im.l.length - (intOf (.int .i64 _)).toNat
      simp [intOf]
      omega
  · have HX := Lib.hid (fun a (hf : Fz b1 a) => hexit a wr hf hbel)
    clear hexit hkey
    conv => arg 2; whnf
    unfold fz
    simp only [h2, h3, h4, h5]
    go_wp2_with fail
    exact HX.out _ ⟨rfl, rfl, rfl, rfl, rfl⟩
end Go.Proofs.YtmdgemdollfnhaaGreatDoor

/- A loop of the reference's Same, of two modules that say the same. -/
namespace Go.Proofs.YtmdgemdollfnhaaGreatDoor
open Go.RowKit Trx

/-- what each operation of the region leaves in its slot. -/
def W3 (m n : Mo) (b1 j : Nat) (x y : Fn) (p1 o1 p2 o2 : Nat) : Nat → Value → World → Prop
  | 0, v, _ => v = .bool true
  | 1, v, _ => v = .bool true
  | 2, v, _ => v = .pointer (some ⟨b1, 2, none⟩)
  | 3, v, _ => v = .slice (some ⟨p1, o1, none⟩) m.fn.l.length m.fn.c
  | 4, v, _ => v = .int .i64 j
  | 5, v, _ => v = .pointer (some ⟨p1, o1 + j * 3, none⟩)
  | 6, v, _ => v = .pointer (some ⟨p1, o1 + j * 3, none⟩)
  | 7, v, _ => v = .int .i64 x.ty
  | 8, v, _ => v = .pointer (some ⟨b1 + 1, 2, none⟩)
  | 9, v, _ => v = .slice (some ⟨p2, o2, none⟩) n.fn.l.length n.fn.c
  | 10, v, _ => v = .int .i64 j
  | 11, v, _ => v = .pointer (some ⟨p2, o2 + j * 3, none⟩)
  | 12, v, _ => v = .pointer (some ⟨p2, o2 + j * 3, none⟩)
  | 13, v, _ => v = .int .i64 y.ty
  | 14, v, _ => v = .bool true
  | 15, v, _ => v = .bool true
  | 16, v, _ => v = .bool true
  | 17, v, _ => v = .pointer (some ⟨b1, 2, none⟩)
  | 18, v, _ => v = .slice (some ⟨p1, o1, none⟩) m.fn.l.length m.fn.c
  | 19, v, _ => v = .int .i64 j
  | 20, v, _ => v = .pointer (some ⟨p1, o1 + j * 3, none⟩)
  | 21, v, _ => v = .pointer (some ⟨p1, o1 + j * 3 + 1, none⟩)
  | 22, v, _ => v = .slice x.lo.A x.lo.zs.length x.lo.c
  | 23, v, _ => v = .pointer (some ⟨b1 + 1, 2, none⟩)
  | 24, v, _ => v = .slice (some ⟨p2, o2, none⟩) n.fn.l.length n.fn.c
  | 25, v, _ => v = .int .i64 j
  | 26, v, _ => v = .pointer (some ⟨p2, o2 + j * 3, none⟩)
  | 27, v, _ => v = .pointer (some ⟨p2, o2 + j * 3 + 1, none⟩)
  | 28, v, _ => v = .slice y.lo.A y.lo.zs.length y.lo.c
  | 29, v, _ => v = .bool true
  | 30, v, _ => v = .bool true
  | 31, v, _ => v = .bool true
  | 32, v, _ => v = .pointer (some ⟨b1, 2, none⟩)
  | 33, v, _ => v = .slice (some ⟨p1, o1, none⟩) m.fn.l.length m.fn.c
  | 34, v, _ => v = .int .i64 j
  | 35, v, _ => v = .pointer (some ⟨p1, o1 + j * 3, none⟩)
  | 36, v, _ => v = .pointer (some ⟨p1, o1 + j * 3 + 2, none⟩)
  | 37, v, _ => v = .slice x.bo.A (len x.bo.f) x.bo.c
  | 38, v, _ => v = .pointer (some ⟨b1 + 1, 2, none⟩)
  | 39, v, _ => v = .slice (some ⟨p2, o2, none⟩) n.fn.l.length n.fn.c
  | 40, v, _ => v = .int .i64 j
  | 41, v, _ => v = .pointer (some ⟨p2, o2 + j * 3, none⟩)
  | 42, v, _ => v = .pointer (some ⟨p2, o2 + j * 3 + 2, none⟩)
  | 43, v, _ => v = .slice y.bo.A (len y.bo.f) y.bo.c
  | 44, v, _ => v = .bool true
  | 45, v, _ => v = .bool true
  | _, _, _ => True
theorem W3.mono {m n : Mo} {b1 j : Nat} {x y : Fn} {p1 o1 p2 o2 : Nat} (i : Nat) (v : Value) (w w' : World) (h : W3 m n b1 j x y p1 o1 p2 o2 i v w) (hb : Below w.heap.size w w') : W3 m n b1 j x y p1 o1 p2 o2 i v w' := by
  unfold W3 at *
  split at h
  all_goals first | exact h | (obtain ⟨A, h1, h2⟩ := h; exact ⟨A, h1, h2.later hb⟩)

set_option maxHeartbeats 8000000 in
set_option maxRecDepth 100000 in
theorem sloop_fn (m n : Mo) (w0 : World) (b1 : Nat) (hC : SmC m n w0 b1) (Q0 : Exit → Act → World → Prop) (hexit : ∀ (a : Act) (wr : World), Fz b1 a → Below w0.heap.size w0 wr → Q0 (.exit 4) a wr)
    (a : Act) (w : World) (hf : Fz b1 a) (h4 : a.eval (.tmp 8) = .int .i64 0) (hb : Below w0.heap.size w0 w) : (Code.loop (smBody 2)).wp Tryz.prog Q0 a w := by
  have hkey := (keyM_iff m n).1 hC.key
  have hle : m.fn.l.length ≤ 9223372036854775807 := by have := Nat.le_trans hC.ok1.fn.le hC.ok1.fn.c; unfold maxLen at this; exact this
  refine wp_loop (fun a wr => Fz b1 a ∧ ∃ j : Nat, a.eval (.tmp 8) = .int .i64 j ∧ j ≤ m.fn.l.length ∧ Below w0.heap.size w0 wr) (fun a _ => m.fn.l.length - (intOf (a.eval (.tmp 8))).toNat) ⟨hf, 0, h4, by omega, hb⟩ ?_
  clear hf h4 hb a w
  rintro a wr ⟨hf, j, h4, hj, hbel⟩
  rw [fz_of a hf.size hf.defers]
  have h2 : (fun i => a.eval (.tmp i)) 2 = .pointer (some ⟨b1, 0, none⟩) := hf.e2
  have h3 : (fun i => a.eval (.tmp i)) 3 = .pointer (some ⟨b1 + 1, 0, none⟩) := hf.e3
  have h5 : (fun i => a.eval (.tmp i)) 5 = .bool true := hf.e5
  replace h4 : (fun i => a.eval (.tmp i)) 8 = .int .i64 j := h4
  generalize (fun i => a.eval (.tmp i)) = f at h2 h3 h4 h5 ⊢
  clear hf a
  have hl0 : b1 < wr.heap.size := Nat.lt_of_lt_of_le (Nat.lt_of_succ_lt hC.lt) hbel.size
  have hl1 : b1 + 1 < wr.heap.size := Nat.lt_of_lt_of_le hC.lt hbel.size
  have hc0 : wr.cell? ⟨b1, 2, none⟩ = some (.slice m.fn.A m.fn.l.length m.fn.c) := (hbel.cell (p := ⟨b1, 2, none⟩) (Nat.lt_of_succ_lt hC.lt)).trans (hC.box1 2 (by omega))
  by_cases hlt : j < m.fn.l.length
  · have hlt2 : j < n.fn.l.length := by
      have := hkey.2.2.2.1
      rw [key_len kFn this]; exact hlt
    have hc1 : wr.cell? ⟨b1 + 1, 2, none⟩ = some (.slice n.fn.A n.fn.l.length n.fn.c) := (hbel.cell (p := ⟨b1 + 1, 2, none⟩) hC.lt).trans (hC.box2 2 (by omega))
    obtain ⟨p1, o1, x, hA1, hx, hb1, hok1, hcell1⟩ := hC.ok1.fn.at_ hlt
    obtain ⟨p2, o2, y, hA2, hy, hb2, hok2, hcell2⟩ := hC.ok2.fn.at_ hlt2
    have hkk := key_at kFn hkey.2.2.2.1 hx hy
    obtain ⟨eq_ty, eq_lo, eq_bo⟩ : x.ty = y.ty ∧ x.lo.zs = y.lo.zs ∧ x.bo.f = y.bo.f := by unfold kFn at hkk; simp at hkk; exact hkk
    clear hkk
    have EQ_ty := Lib.hid eq_ty
    clear eq_ty
    have EQ_lo := Lib.hid eq_lo
    clear eq_lo
    have EQ_bo := Lib.hid eq_bo
    clear eq_bo
    have q0 : wr.cell? ⟨p1, o1 + j * 3, none⟩ = some (.int .i64 x.ty) := (hbel.cell (p := ⟨p1, _, none⟩) hb1).trans (hcell1 0 (by omega))
    have q1 : wr.cell? ⟨p1, o1 + j * 3 + 1, none⟩ = some (.slice x.lo.A x.lo.zs.length x.lo.c) := (hbel.cell (p := ⟨p1, _, none⟩) hb1).trans (hcell1 1 (by omega))
    have q2 : wr.cell? ⟨p1, o1 + j * 3 + 2, none⟩ = some (.slice x.bo.A (len x.bo.f) x.bo.c) := (hbel.cell (p := ⟨p1, _, none⟩) hb1).trans (hcell1 2 (by omega))
    have r0 : wr.cell? ⟨p2, o2 + j * 3, none⟩ = some (.int .i64 y.ty) := (hbel.cell (p := ⟨p2, _, none⟩) hb2).trans (hcell2 0 (by omega))
    have r1 : wr.cell? ⟨p2, o2 + j * 3 + 1, none⟩ = some (.slice y.lo.A y.lo.zs.length y.lo.c) := (hbel.cell (p := ⟨p2, _, none⟩) hb2).trans (hcell2 1 (by omega))
    have r2 : wr.cell? ⟨p2, o2 + j * 3 + 2, none⟩ = some (.slice y.bo.A (len y.bo.f) y.bo.c) := (hbel.cell (p := ⟨p2, _, none⟩) hb2).trans (hcell2 2 (by omega))
    have hok1' := hok1.keep hbel.size (Below.kp hbel)
    have hok2' := hok2.keep hbel.size (Below.kp hbel)
    have hb1' := Nat.lt_of_lt_of_le hb1 hbel.size
    have hb2' := Nat.lt_of_lt_of_le hb2 hbel.size
    rw [hA1] at hc0
    rw [hA2] at hc1
    have HKY := Lib.hid hkey
    clear hkey hcell1 hcell2 hexit
    conv => arg 2; whnf
    unfold fz
    simp only [h2, h3, h4, h5]
    go_wp2_with fail
    refine gen_z 8 (v2 := .pointer (some ⟨b1, 0, none⟩)) (v3 := .pointer (some ⟨b1 + 1, 0, none⟩)) (v5 := .bool true) (vk := .int .i64 j) _ rfl rfl rfl rfl rfl rfl ?_
    intro a hsz hd e2 e3 e5 e4
    refine region_vals 46 47 (W3 m n b1 j x y p1 o1 p2 o2) (fun i => i + 177) a wr (by kernel_rfl) rfl (by omega) (by kernel_rfl) (by kernel_rfl) (by kernel_rfl) (by rw [hsz]; kernel_rfl) W3.mono ?_ ?_
    · intro i hi a1 w1 hB hV
      have hbw : Below wr.heap.size wr w1 := ((Below.refl wr.heap.size wr).drew).trans hB.below
      have z2 := ev ((hB.same 2 (fun i _ => by omega)).trans e2)
      have z3 := ev ((hB.same 3 (fun i _ => by omega)).trans e3)
      have z4 := ev ((hB.same 8 (fun i _ => by omega)).trans e4)
      have z5 := ev ((hB.same 5 (fun i _ => by omega)).trans e5)
      have d0 := (hbw.cell (p := ⟨b1, 2, none⟩) hl0).trans hc0
      have d1 := (hbw.cell (p := ⟨b1 + 1, 2, none⟩) hl1).trans hc1
      have u0 := (hbw.cell (p := ⟨p1, _, none⟩) hb1').trans q0
      have v0 := (hbw.cell (p := ⟨p2, _, none⟩) hb2').trans r0
      have u1 := (hbw.cell (p := ⟨p1, _, none⟩) hb1').trans q1
      have v1 := (hbw.cell (p := ⟨p2, _, none⟩) hb2').trans r1
      have u2 := (hbw.cell (p := ⟨p1, _, none⟩) hb1').trans q2
      have v2 := (hbw.cell (p := ⟨p2, _, none⟩) hb2').trans r2
      have hkx := hok1'.keep hbw.size (Below.kp hbw)
      have hky := hok2'.keep hbw.size (Below.kp hbw)
      match i, hi with
      | 0, _ =>
        exact op_plain rfl rfl (op_val (.bool true) (by go_simp) ⟨_, rfl, Below.refl _ _, rfl⟩)
      | 1, _ =>
        have k0 := ev (show a1.eval (.tmp 177) = _ from hV ⟨0, .data⟩ (by first | exact .head _ | exact .tail _ (.head _) | exact .tail _ (.tail _ (.head _)) | exact .tail _ (.tail _ (.tail _ (.head _))) | exact .tail _ (.tail _ (.tail _ (.tail _ (.head _))))) rfl)
        exact op_plain rfl rfl (op_val (.bool true) (by go_simp) ⟨_, rfl, Below.refl _ _, rfl⟩)
      | 2, _ =>
        exact op_guardT rfl rfl rfl (show a1.eval (.tmp 178) = .bool true from hV ⟨1, .guard⟩ (by first | exact .head _ | exact .tail _ (.head _) | exact .tail _ (.tail _ (.head _)) | exact .tail _ (.tail _ (.tail _ (.head _))) | exact .tail _ (.tail _ (.tail _ (.tail _ (.head _))))) rfl) (op_val (.pointer (some ⟨b1, 2, none⟩)) (by go_simp) ⟨_, rfl, Below.refl _ _, rfl⟩)
      | 3, _ =>
        have k0 := ev (show a1.eval (.tmp 179) = _ from hV ⟨2, .data⟩ (by first | exact .head _ | exact .tail _ (.head _) | exact .tail _ (.tail _ (.head _)) | exact .tail _ (.tail _ (.tail _ (.head _))) | exact .tail _ (.tail _ (.tail _ (.tail _ (.head _))))) rfl)
        exact op_guardT rfl rfl rfl (show a1.eval (.tmp 178) = .bool true from hV ⟨1, .guard⟩ (by first | exact .head _ | exact .tail _ (.head _) | exact .tail _ (.tail _ (.head _)) | exact .tail _ (.tail _ (.tail _ (.head _))) | exact .tail _ (.tail _ (.tail _ (.tail _ (.head _))))) rfl) (op_val (.slice (some ⟨p1, o1, none⟩) m.fn.l.length m.fn.c) (by go_simp) ⟨_, rfl, Below.refl _ _, rfl⟩)
      | 4, _ =>
        exact op_guardT rfl rfl rfl (show a1.eval (.tmp 178) = .bool true from hV ⟨1, .guard⟩ (by first | exact .head _ | exact .tail _ (.head _) | exact .tail _ (.tail _ (.head _)) | exact .tail _ (.tail _ (.tail _ (.head _))) | exact .tail _ (.tail _ (.tail _ (.tail _ (.head _))))) rfl) (op_val (.int .i64 j) (by go_simp) ⟨_, rfl, Below.refl _ _, rfl⟩)
      | 5, _ =>
        have k0 := ev (show a1.eval (.tmp 180) = _ from hV ⟨3, .data⟩ (by first | exact .head _ | exact .tail _ (.head _) | exact .tail _ (.tail _ (.head _)) | exact .tail _ (.tail _ (.tail _ (.head _))) | exact .tail _ (.tail _ (.tail _ (.tail _ (.head _))))) rfl)
        have k1 := ev (show a1.eval (.tmp 181) = _ from hV ⟨4, .data⟩ (by first | exact .head _ | exact .tail _ (.head _) | exact .tail _ (.tail _ (.head _)) | exact .tail _ (.tail _ (.tail _ (.head _))) | exact .tail _ (.tail _ (.tail _ (.tail _ (.head _))))) rfl)
        exact op_guardT rfl rfl rfl (show a1.eval (.tmp 178) = .bool true from hV ⟨1, .guard⟩ (by first | exact .head _ | exact .tail _ (.head _) | exact .tail _ (.tail _ (.head _)) | exact .tail _ (.tail _ (.tail _ (.head _))) | exact .tail _ (.tail _ (.tail _ (.tail _ (.head _))))) rfl) (op_val (.pointer (some ⟨p1, o1 + j * 3, none⟩)) (by go_simp) ⟨_, rfl, Below.refl _ _, rfl⟩)
      | 6, _ =>
        have k0 := ev (show a1.eval (.tmp 182) = _ from hV ⟨5, .data⟩ (by first | exact .head _ | exact .tail _ (.head _) | exact .tail _ (.tail _ (.head _)) | exact .tail _ (.tail _ (.tail _ (.head _))) | exact .tail _ (.tail _ (.tail _ (.tail _ (.head _))))) rfl)
        exact op_guardT rfl rfl rfl (show a1.eval (.tmp 178) = .bool true from hV ⟨1, .guard⟩ (by first | exact .head _ | exact .tail _ (.head _) | exact .tail _ (.tail _ (.head _)) | exact .tail _ (.tail _ (.tail _ (.head _))) | exact .tail _ (.tail _ (.tail _ (.tail _ (.head _))))) rfl) (op_val (.pointer (some ⟨p1, o1 + j * 3, none⟩)) (by go_simp) ⟨_, rfl, Below.refl _ _, rfl⟩)
      | 7, _ =>
        have k0 := ev (show a1.eval (.tmp 183) = _ from hV ⟨6, .data⟩ (by first | exact .head _ | exact .tail _ (.head _) | exact .tail _ (.tail _ (.head _)) | exact .tail _ (.tail _ (.tail _ (.head _))) | exact .tail _ (.tail _ (.tail _ (.tail _ (.head _))))) rfl)
        exact op_guardT rfl rfl rfl (show a1.eval (.tmp 178) = .bool true from hV ⟨1, .guard⟩ (by first | exact .head _ | exact .tail _ (.head _) | exact .tail _ (.tail _ (.head _)) | exact .tail _ (.tail _ (.tail _ (.head _))) | exact .tail _ (.tail _ (.tail _ (.tail _ (.head _))))) rfl) (op_val (.int .i64 x.ty) (by go_simp) ⟨_, rfl, Below.refl _ _, rfl⟩)
      | 8, _ =>
        exact op_guardT rfl rfl rfl (show a1.eval (.tmp 178) = .bool true from hV ⟨1, .guard⟩ (by first | exact .head _ | exact .tail _ (.head _) | exact .tail _ (.tail _ (.head _)) | exact .tail _ (.tail _ (.tail _ (.head _))) | exact .tail _ (.tail _ (.tail _ (.tail _ (.head _))))) rfl) (op_val (.pointer (some ⟨b1 + 1, 2, none⟩)) (by go_simp) ⟨_, rfl, Below.refl _ _, rfl⟩)
      | 9, _ =>
        have k0 := ev (show a1.eval (.tmp 185) = _ from hV ⟨8, .data⟩ (by first | exact .head _ | exact .tail _ (.head _) | exact .tail _ (.tail _ (.head _)) | exact .tail _ (.tail _ (.tail _ (.head _))) | exact .tail _ (.tail _ (.tail _ (.tail _ (.head _))))) rfl)
        exact op_guardT rfl rfl rfl (show a1.eval (.tmp 178) = .bool true from hV ⟨1, .guard⟩ (by first | exact .head _ | exact .tail _ (.head _) | exact .tail _ (.tail _ (.head _)) | exact .tail _ (.tail _ (.tail _ (.head _))) | exact .tail _ (.tail _ (.tail _ (.tail _ (.head _))))) rfl) (op_val (.slice (some ⟨p2, o2, none⟩) n.fn.l.length n.fn.c) (by go_simp) ⟨_, rfl, Below.refl _ _, rfl⟩)
      | 10, _ =>
        exact op_guardT rfl rfl rfl (show a1.eval (.tmp 178) = .bool true from hV ⟨1, .guard⟩ (by first | exact .head _ | exact .tail _ (.head _) | exact .tail _ (.tail _ (.head _)) | exact .tail _ (.tail _ (.tail _ (.head _))) | exact .tail _ (.tail _ (.tail _ (.tail _ (.head _))))) rfl) (op_val (.int .i64 j) (by go_simp) ⟨_, rfl, Below.refl _ _, rfl⟩)
      | 11, _ =>
        have k0 := ev (show a1.eval (.tmp 186) = _ from hV ⟨9, .data⟩ (by first | exact .head _ | exact .tail _ (.head _) | exact .tail _ (.tail _ (.head _)) | exact .tail _ (.tail _ (.tail _ (.head _))) | exact .tail _ (.tail _ (.tail _ (.tail _ (.head _))))) rfl)
        have k1 := ev (show a1.eval (.tmp 187) = _ from hV ⟨10, .data⟩ (by first | exact .head _ | exact .tail _ (.head _) | exact .tail _ (.tail _ (.head _)) | exact .tail _ (.tail _ (.tail _ (.head _))) | exact .tail _ (.tail _ (.tail _ (.tail _ (.head _))))) rfl)
        exact op_guardT rfl rfl rfl (show a1.eval (.tmp 178) = .bool true from hV ⟨1, .guard⟩ (by first | exact .head _ | exact .tail _ (.head _) | exact .tail _ (.tail _ (.head _)) | exact .tail _ (.tail _ (.tail _ (.head _))) | exact .tail _ (.tail _ (.tail _ (.tail _ (.head _))))) rfl) (op_val (.pointer (some ⟨p2, o2 + j * 3, none⟩)) (by go_simp) ⟨_, rfl, Below.refl _ _, rfl⟩)
      | 12, _ =>
        have k0 := ev (show a1.eval (.tmp 188) = _ from hV ⟨11, .data⟩ (by first | exact .head _ | exact .tail _ (.head _) | exact .tail _ (.tail _ (.head _)) | exact .tail _ (.tail _ (.tail _ (.head _))) | exact .tail _ (.tail _ (.tail _ (.tail _ (.head _))))) rfl)
        exact op_guardT rfl rfl rfl (show a1.eval (.tmp 178) = .bool true from hV ⟨1, .guard⟩ (by first | exact .head _ | exact .tail _ (.head _) | exact .tail _ (.tail _ (.head _)) | exact .tail _ (.tail _ (.tail _ (.head _))) | exact .tail _ (.tail _ (.tail _ (.tail _ (.head _))))) rfl) (op_val (.pointer (some ⟨p2, o2 + j * 3, none⟩)) (by go_simp) ⟨_, rfl, Below.refl _ _, rfl⟩)
      | 13, _ =>
        have k0 := ev (show a1.eval (.tmp 189) = _ from hV ⟨12, .data⟩ (by first | exact .head _ | exact .tail _ (.head _) | exact .tail _ (.tail _ (.head _)) | exact .tail _ (.tail _ (.tail _ (.head _))) | exact .tail _ (.tail _ (.tail _ (.tail _ (.head _))))) rfl)
        exact op_guardT rfl rfl rfl (show a1.eval (.tmp 178) = .bool true from hV ⟨1, .guard⟩ (by first | exact .head _ | exact .tail _ (.head _) | exact .tail _ (.tail _ (.head _)) | exact .tail _ (.tail _ (.tail _ (.head _))) | exact .tail _ (.tail _ (.tail _ (.tail _ (.head _))))) rfl) (op_val (.int .i64 y.ty) (by go_simp) ⟨_, rfl, Below.refl _ _, rfl⟩)
      | 14, _ =>
        have heq := EQ_ty.out
        have k0 := ev (show a1.eval (.tmp 184) = _ from hV ⟨7, .data⟩ (by first | exact .head _ | exact .tail _ (.head _) | exact .tail _ (.tail _ (.head _)) | exact .tail _ (.tail _ (.tail _ (.head _))) | exact .tail _ (.tail _ (.tail _ (.tail _ (.head _))))) rfl)
        have k1 := ev (show a1.eval (.tmp 190) = _ from hV ⟨13, .data⟩ (by first | exact .head _ | exact .tail _ (.head _) | exact .tail _ (.tail _ (.head _)) | exact .tail _ (.tail _ (.tail _ (.head _))) | exact .tail _ (.tail _ (.tail _ (.tail _ (.head _))))) rfl)
        rw [← heq] at k1
        clear heq
        exact op_guardT rfl rfl rfl (show a1.eval (.tmp 178) = .bool true from hV ⟨1, .guard⟩ (by first | exact .head _ | exact .tail _ (.head _) | exact .tail _ (.tail _ (.head _)) | exact .tail _ (.tail _ (.tail _ (.head _))) | exact .tail _ (.tail _ (.tail _ (.tail _ (.head _))))) rfl) (op_val (.bool true) (by go_simp) ⟨_, rfl, Below.refl _ _, rfl⟩)
      | 15, _ =>
        have k0 := ev (show a1.eval (.tmp 178) = _ from hV ⟨1, .data⟩ (by first | exact .head _ | exact .tail _ (.head _) | exact .tail _ (.tail _ (.head _)) | exact .tail _ (.tail _ (.tail _ (.head _))) | exact .tail _ (.tail _ (.tail _ (.tail _ (.head _))))) rfl)
        have k1 := ev (show a1.eval (.tmp 191) = _ from hV ⟨14, .data⟩ (by first | exact .head _ | exact .tail _ (.head _) | exact .tail _ (.tail _ (.head _)) | exact .tail _ (.tail _ (.tail _ (.head _))) | exact .tail _ (.tail _ (.tail _ (.tail _ (.head _))))) rfl)
        exact op_plain rfl rfl (op_val (.bool true) (by go_simp) ⟨_, rfl, Below.refl _ _, rfl⟩)
      | 16, _ =>
        have k0 := ev (show a1.eval (.tmp 192) = _ from hV ⟨15, .data⟩ (by first | exact .head _ | exact .tail _ (.head _) | exact .tail _ (.tail _ (.head _)) | exact .tail _ (.tail _ (.tail _ (.head _))) | exact .tail _ (.tail _ (.tail _ (.tail _ (.head _))))) rfl)
        exact op_plain rfl rfl (op_val (.bool true) (by go_simp) ⟨_, rfl, Below.refl _ _, rfl⟩)
      | 17, _ =>
        exact op_guardT rfl rfl rfl (show a1.eval (.tmp 193) = .bool true from hV ⟨16, .guard⟩ (by first | exact .head _ | exact .tail _ (.head _) | exact .tail _ (.tail _ (.head _)) | exact .tail _ (.tail _ (.tail _ (.head _))) | exact .tail _ (.tail _ (.tail _ (.tail _ (.head _))))) rfl) (op_val (.pointer (some ⟨b1, 2, none⟩)) (by go_simp) ⟨_, rfl, Below.refl _ _, rfl⟩)
      | 18, _ =>
        have k0 := ev (show a1.eval (.tmp 194) = _ from hV ⟨17, .data⟩ (by first | exact .head _ | exact .tail _ (.head _) | exact .tail _ (.tail _ (.head _)) | exact .tail _ (.tail _ (.tail _ (.head _))) | exact .tail _ (.tail _ (.tail _ (.tail _ (.head _))))) rfl)
        exact op_guardT rfl rfl rfl (show a1.eval (.tmp 193) = .bool true from hV ⟨16, .guard⟩ (by first | exact .head _ | exact .tail _ (.head _) | exact .tail _ (.tail _ (.head _)) | exact .tail _ (.tail _ (.tail _ (.head _))) | exact .tail _ (.tail _ (.tail _ (.tail _ (.head _))))) rfl) (op_val (.slice (some ⟨p1, o1, none⟩) m.fn.l.length m.fn.c) (by go_simp) ⟨_, rfl, Below.refl _ _, rfl⟩)
      | 19, _ =>
        exact op_guardT rfl rfl rfl (show a1.eval (.tmp 193) = .bool true from hV ⟨16, .guard⟩ (by first | exact .head _ | exact .tail _ (.head _) | exact .tail _ (.tail _ (.head _)) | exact .tail _ (.tail _ (.tail _ (.head _))) | exact .tail _ (.tail _ (.tail _ (.tail _ (.head _))))) rfl) (op_val (.int .i64 j) (by go_simp) ⟨_, rfl, Below.refl _ _, rfl⟩)
      | 20, _ =>
        have k0 := ev (show a1.eval (.tmp 195) = _ from hV ⟨18, .data⟩ (by first | exact .head _ | exact .tail _ (.head _) | exact .tail _ (.tail _ (.head _)) | exact .tail _ (.tail _ (.tail _ (.head _))) | exact .tail _ (.tail _ (.tail _ (.tail _ (.head _))))) rfl)
        have k1 := ev (show a1.eval (.tmp 196) = _ from hV ⟨19, .data⟩ (by first | exact .head _ | exact .tail _ (.head _) | exact .tail _ (.tail _ (.head _)) | exact .tail _ (.tail _ (.tail _ (.head _))) | exact .tail _ (.tail _ (.tail _ (.tail _ (.head _))))) rfl)
        exact op_guardT rfl rfl rfl (show a1.eval (.tmp 193) = .bool true from hV ⟨16, .guard⟩ (by first | exact .head _ | exact .tail _ (.head _) | exact .tail _ (.tail _ (.head _)) | exact .tail _ (.tail _ (.tail _ (.head _))) | exact .tail _ (.tail _ (.tail _ (.tail _ (.head _))))) rfl) (op_val (.pointer (some ⟨p1, o1 + j * 3, none⟩)) (by go_simp) ⟨_, rfl, Below.refl _ _, rfl⟩)
      | 21, _ =>
        have k0 := ev (show a1.eval (.tmp 197) = _ from hV ⟨20, .data⟩ (by first | exact .head _ | exact .tail _ (.head _) | exact .tail _ (.tail _ (.head _)) | exact .tail _ (.tail _ (.tail _ (.head _))) | exact .tail _ (.tail _ (.tail _ (.tail _ (.head _))))) rfl)
        exact op_guardT rfl rfl rfl (show a1.eval (.tmp 193) = .bool true from hV ⟨16, .guard⟩ (by first | exact .head _ | exact .tail _ (.head _) | exact .tail _ (.tail _ (.head _)) | exact .tail _ (.tail _ (.tail _ (.head _))) | exact .tail _ (.tail _ (.tail _ (.tail _ (.head _))))) rfl) (op_val (.pointer (some ⟨p1, o1 + j * 3 + 1, none⟩)) (by go_simp) ⟨_, rfl, Below.refl _ _, rfl⟩)
      | 22, _ =>
        have k0 := ev (show a1.eval (.tmp 198) = _ from hV ⟨21, .data⟩ (by first | exact .head _ | exact .tail _ (.head _) | exact .tail _ (.tail _ (.head _)) | exact .tail _ (.tail _ (.tail _ (.head _))) | exact .tail _ (.tail _ (.tail _ (.tail _ (.head _))))) rfl)
        exact op_guardT rfl rfl rfl (show a1.eval (.tmp 193) = .bool true from hV ⟨16, .guard⟩ (by first | exact .head _ | exact .tail _ (.head _) | exact .tail _ (.tail _ (.head _)) | exact .tail _ (.tail _ (.tail _ (.head _))) | exact .tail _ (.tail _ (.tail _ (.tail _ (.head _))))) rfl) (op_val (.slice x.lo.A x.lo.zs.length x.lo.c) (by go_simp) ⟨_, rfl, Below.refl _ _, rfl⟩)
      | 23, _ =>
        exact op_guardT rfl rfl rfl (show a1.eval (.tmp 193) = .bool true from hV ⟨16, .guard⟩ (by first | exact .head _ | exact .tail _ (.head _) | exact .tail _ (.tail _ (.head _)) | exact .tail _ (.tail _ (.tail _ (.head _))) | exact .tail _ (.tail _ (.tail _ (.tail _ (.head _))))) rfl) (op_val (.pointer (some ⟨b1 + 1, 2, none⟩)) (by go_simp) ⟨_, rfl, Below.refl _ _, rfl⟩)
      | 24, _ =>
        have k0 := ev (show a1.eval (.tmp 200) = _ from hV ⟨23, .data⟩ (by first | exact .head _ | exact .tail _ (.head _) | exact .tail _ (.tail _ (.head _)) | exact .tail _ (.tail _ (.tail _ (.head _))) | exact .tail _ (.tail _ (.tail _ (.tail _ (.head _))))) rfl)
        exact op_guardT rfl rfl rfl (show a1.eval (.tmp 193) = .bool true from hV ⟨16, .guard⟩ (by first | exact .head _ | exact .tail _ (.head _) | exact .tail _ (.tail _ (.head _)) | exact .tail _ (.tail _ (.tail _ (.head _))) | exact .tail _ (.tail _ (.tail _ (.tail _ (.head _))))) rfl) (op_val (.slice (some ⟨p2, o2, none⟩) n.fn.l.length n.fn.c) (by go_simp) ⟨_, rfl, Below.refl _ _, rfl⟩)
      | 25, _ =>
        exact op_guardT rfl rfl rfl (show a1.eval (.tmp 193) = .bool true from hV ⟨16, .guard⟩ (by first | exact .head _ | exact .tail _ (.head _) | exact .tail _ (.tail _ (.head _)) | exact .tail _ (.tail _ (.tail _ (.head _))) | exact .tail _ (.tail _ (.tail _ (.tail _ (.head _))))) rfl) (op_val (.int .i64 j) (by go_simp) ⟨_, rfl, Below.refl _ _, rfl⟩)
      | 26, _ =>
        have k0 := ev (show a1.eval (.tmp 201) = _ from hV ⟨24, .data⟩ (by first | exact .head _ | exact .tail _ (.head _) | exact .tail _ (.tail _ (.head _)) | exact .tail _ (.tail _ (.tail _ (.head _))) | exact .tail _ (.tail _ (.tail _ (.tail _ (.head _))))) rfl)
        have k1 := ev (show a1.eval (.tmp 202) = _ from hV ⟨25, .data⟩ (by first | exact .head _ | exact .tail _ (.head _) | exact .tail _ (.tail _ (.head _)) | exact .tail _ (.tail _ (.tail _ (.head _))) | exact .tail _ (.tail _ (.tail _ (.tail _ (.head _))))) rfl)
        exact op_guardT rfl rfl rfl (show a1.eval (.tmp 193) = .bool true from hV ⟨16, .guard⟩ (by first | exact .head _ | exact .tail _ (.head _) | exact .tail _ (.tail _ (.head _)) | exact .tail _ (.tail _ (.tail _ (.head _))) | exact .tail _ (.tail _ (.tail _ (.tail _ (.head _))))) rfl) (op_val (.pointer (some ⟨p2, o2 + j * 3, none⟩)) (by go_simp) ⟨_, rfl, Below.refl _ _, rfl⟩)
      | 27, _ =>
        have k0 := ev (show a1.eval (.tmp 203) = _ from hV ⟨26, .data⟩ (by first | exact .head _ | exact .tail _ (.head _) | exact .tail _ (.tail _ (.head _)) | exact .tail _ (.tail _ (.tail _ (.head _))) | exact .tail _ (.tail _ (.tail _ (.tail _ (.head _))))) rfl)
        exact op_guardT rfl rfl rfl (show a1.eval (.tmp 193) = .bool true from hV ⟨16, .guard⟩ (by first | exact .head _ | exact .tail _ (.head _) | exact .tail _ (.tail _ (.head _)) | exact .tail _ (.tail _ (.tail _ (.head _))) | exact .tail _ (.tail _ (.tail _ (.tail _ (.head _))))) rfl) (op_val (.pointer (some ⟨p2, o2 + j * 3 + 1, none⟩)) (by go_simp) ⟨_, rfl, Below.refl _ _, rfl⟩)
      | 28, _ =>
        have k0 := ev (show a1.eval (.tmp 204) = _ from hV ⟨27, .data⟩ (by first | exact .head _ | exact .tail _ (.head _) | exact .tail _ (.tail _ (.head _)) | exact .tail _ (.tail _ (.tail _ (.head _))) | exact .tail _ (.tail _ (.tail _ (.tail _ (.head _))))) rfl)
        exact op_guardT rfl rfl rfl (show a1.eval (.tmp 193) = .bool true from hV ⟨16, .guard⟩ (by first | exact .head _ | exact .tail _ (.head _) | exact .tail _ (.tail _ (.head _)) | exact .tail _ (.tail _ (.tail _ (.head _))) | exact .tail _ (.tail _ (.tail _ (.tail _ (.head _))))) rfl) (op_val (.slice y.lo.A y.lo.zs.length y.lo.c) (by go_simp) ⟨_, rfl, Below.refl _ _, rfl⟩)
      | 29, _ =>
        have k0 := ev (show a1.eval (.tmp 199) = _ from hV ⟨22, .data⟩ (by first | exact .head _ | exact .tail _ (.head _) | exact .tail _ (.tail _ (.head _)) | exact .tail _ (.tail _ (.tail _ (.head _))) | exact .tail _ (.tail _ (.tail _ (.tail _ (.head _))))) rfl)
        have k1 := ev (show a1.eval (.tmp 205) = _ from hV ⟨28, .data⟩ (by first | exact .head _ | exact .tail _ (.head _) | exact .tail _ (.tail _ (.head _)) | exact .tail _ (.tail _ (.tail _ (.head _))) | exact .tail _ (.tail _ (.tail _ (.tail _ (.head _))))) rfl)
        have HQ := Lib.hid (Ints_eq x.lo y.lo w1 hkx.lo hky.lo EQ_lo.out)
        refine op_guardT rfl rfl rfl (show a1.eval (.tmp 193) = .bool true from hV ⟨16, .guard⟩ (by first | exact .head _ | exact .tail _ (.head _) | exact .tail _ (.tail _ (.head _)) | exact .tail _ (.tail _ (.tail _ (.head _))) | exact .tail _ (.tail _ (.tail _ (.tail _ (.head _))))) rfl) ?_
        go_simp
        refine HQ.out.mono ?_
        rintro e w' ⟨rfl, hb⟩
        exact ⟨_, rfl, hb, rfl⟩
      | 30, _ =>
        have k0 := ev (show a1.eval (.tmp 193) = _ from hV ⟨16, .data⟩ (by first | exact .head _ | exact .tail _ (.head _) | exact .tail _ (.tail _ (.head _)) | exact .tail _ (.tail _ (.tail _ (.head _))) | exact .tail _ (.tail _ (.tail _ (.tail _ (.head _))))) rfl)
        have k1 := ev (show a1.eval (.tmp 206) = _ from hV ⟨29, .data⟩ (by first | exact .head _ | exact .tail _ (.head _) | exact .tail _ (.tail _ (.head _)) | exact .tail _ (.tail _ (.tail _ (.head _))) | exact .tail _ (.tail _ (.tail _ (.tail _ (.head _))))) rfl)
        exact op_plain rfl rfl (op_val (.bool true) (by go_simp) ⟨_, rfl, Below.refl _ _, rfl⟩)
      | 31, _ =>
        have k0 := ev (show a1.eval (.tmp 207) = _ from hV ⟨30, .data⟩ (by first | exact .head _ | exact .tail _ (.head _) | exact .tail _ (.tail _ (.head _)) | exact .tail _ (.tail _ (.tail _ (.head _))) | exact .tail _ (.tail _ (.tail _ (.tail _ (.head _))))) rfl)
        exact op_plain rfl rfl (op_val (.bool true) (by go_simp) ⟨_, rfl, Below.refl _ _, rfl⟩)
      | 32, _ =>
        exact op_guardT rfl rfl rfl (show a1.eval (.tmp 208) = .bool true from hV ⟨31, .guard⟩ (by first | exact .head _ | exact .tail _ (.head _) | exact .tail _ (.tail _ (.head _)) | exact .tail _ (.tail _ (.tail _ (.head _))) | exact .tail _ (.tail _ (.tail _ (.tail _ (.head _))))) rfl) (op_val (.pointer (some ⟨b1, 2, none⟩)) (by go_simp) ⟨_, rfl, Below.refl _ _, rfl⟩)
      | 33, _ =>
        have k0 := ev (show a1.eval (.tmp 209) = _ from hV ⟨32, .data⟩ (by first | exact .head _ | exact .tail _ (.head _) | exact .tail _ (.tail _ (.head _)) | exact .tail _ (.tail _ (.tail _ (.head _))) | exact .tail _ (.tail _ (.tail _ (.tail _ (.head _))))) rfl)
        exact op_guardT rfl rfl rfl (show a1.eval (.tmp 208) = .bool true from hV ⟨31, .guard⟩ (by first | exact .head _ | exact .tail _ (.head _) | exact .tail _ (.tail _ (.head _)) | exact .tail _ (.tail _ (.tail _ (.head _))) | exact .tail _ (.tail _ (.tail _ (.tail _ (.head _))))) rfl) (op_val (.slice (some ⟨p1, o1, none⟩) m.fn.l.length m.fn.c) (by go_simp) ⟨_, rfl, Below.refl _ _, rfl⟩)
      | 34, _ =>
        exact op_guardT rfl rfl rfl (show a1.eval (.tmp 208) = .bool true from hV ⟨31, .guard⟩ (by first | exact .head _ | exact .tail _ (.head _) | exact .tail _ (.tail _ (.head _)) | exact .tail _ (.tail _ (.tail _ (.head _))) | exact .tail _ (.tail _ (.tail _ (.tail _ (.head _))))) rfl) (op_val (.int .i64 j) (by go_simp) ⟨_, rfl, Below.refl _ _, rfl⟩)
      | 35, _ =>
        have k0 := ev (show a1.eval (.tmp 210) = _ from hV ⟨33, .data⟩ (by first | exact .head _ | exact .tail _ (.head _) | exact .tail _ (.tail _ (.head _)) | exact .tail _ (.tail _ (.tail _ (.head _))) | exact .tail _ (.tail _ (.tail _ (.tail _ (.head _))))) rfl)
        have k1 := ev (show a1.eval (.tmp 211) = _ from hV ⟨34, .data⟩ (by first | exact .head _ | exact .tail _ (.head _) | exact .tail _ (.tail _ (.head _)) | exact .tail _ (.tail _ (.tail _ (.head _))) | exact .tail _ (.tail _ (.tail _ (.tail _ (.head _))))) rfl)
        exact op_guardT rfl rfl rfl (show a1.eval (.tmp 208) = .bool true from hV ⟨31, .guard⟩ (by first | exact .head _ | exact .tail _ (.head _) | exact .tail _ (.tail _ (.head _)) | exact .tail _ (.tail _ (.tail _ (.head _))) | exact .tail _ (.tail _ (.tail _ (.tail _ (.head _))))) rfl) (op_val (.pointer (some ⟨p1, o1 + j * 3, none⟩)) (by go_simp) ⟨_, rfl, Below.refl _ _, rfl⟩)
      | 36, _ =>
        have k0 := ev (show a1.eval (.tmp 212) = _ from hV ⟨35, .data⟩ (by first | exact .head _ | exact .tail _ (.head _) | exact .tail _ (.tail _ (.head _)) | exact .tail _ (.tail _ (.tail _ (.head _))) | exact .tail _ (.tail _ (.tail _ (.tail _ (.head _))))) rfl)
        exact op_guardT rfl rfl rfl (show a1.eval (.tmp 208) = .bool true from hV ⟨31, .guard⟩ (by first | exact .head _ | exact .tail _ (.head _) | exact .tail _ (.tail _ (.head _)) | exact .tail _ (.tail _ (.tail _ (.head _))) | exact .tail _ (.tail _ (.tail _ (.tail _ (.head _))))) rfl) (op_val (.pointer (some ⟨p1, o1 + j * 3 + 2, none⟩)) (by go_simp) ⟨_, rfl, Below.refl _ _, rfl⟩)
      | 37, _ =>
        have k0 := ev (show a1.eval (.tmp 213) = _ from hV ⟨36, .data⟩ (by first | exact .head _ | exact .tail _ (.head _) | exact .tail _ (.tail _ (.head _)) | exact .tail _ (.tail _ (.tail _ (.head _))) | exact .tail _ (.tail _ (.tail _ (.tail _ (.head _))))) rfl)
        exact op_guardT rfl rfl rfl (show a1.eval (.tmp 208) = .bool true from hV ⟨31, .guard⟩ (by first | exact .head _ | exact .tail _ (.head _) | exact .tail _ (.tail _ (.head _)) | exact .tail _ (.tail _ (.tail _ (.head _))) | exact .tail _ (.tail _ (.tail _ (.tail _ (.head _))))) rfl) (op_val (.slice x.bo.A (len x.bo.f) x.bo.c) (by go_simp) ⟨_, rfl, Below.refl _ _, rfl⟩)
      | 38, _ =>
        exact op_guardT rfl rfl rfl (show a1.eval (.tmp 208) = .bool true from hV ⟨31, .guard⟩ (by first | exact .head _ | exact .tail _ (.head _) | exact .tail _ (.tail _ (.head _)) | exact .tail _ (.tail _ (.tail _ (.head _))) | exact .tail _ (.tail _ (.tail _ (.tail _ (.head _))))) rfl) (op_val (.pointer (some ⟨b1 + 1, 2, none⟩)) (by go_simp) ⟨_, rfl, Below.refl _ _, rfl⟩)
      | 39, _ =>
        have k0 := ev (show a1.eval (.tmp 215) = _ from hV ⟨38, .data⟩ (by first | exact .head _ | exact .tail _ (.head _) | exact .tail _ (.tail _ (.head _)) | exact .tail _ (.tail _ (.tail _ (.head _))) | exact .tail _ (.tail _ (.tail _ (.tail _ (.head _))))) rfl)
        exact op_guardT rfl rfl rfl (show a1.eval (.tmp 208) = .bool true from hV ⟨31, .guard⟩ (by first | exact .head _ | exact .tail _ (.head _) | exact .tail _ (.tail _ (.head _)) | exact .tail _ (.tail _ (.tail _ (.head _))) | exact .tail _ (.tail _ (.tail _ (.tail _ (.head _))))) rfl) (op_val (.slice (some ⟨p2, o2, none⟩) n.fn.l.length n.fn.c) (by go_simp) ⟨_, rfl, Below.refl _ _, rfl⟩)
      | 40, _ =>
        exact op_guardT rfl rfl rfl (show a1.eval (.tmp 208) = .bool true from hV ⟨31, .guard⟩ (by first | exact .head _ | exact .tail _ (.head _) | exact .tail _ (.tail _ (.head _)) | exact .tail _ (.tail _ (.tail _ (.head _))) | exact .tail _ (.tail _ (.tail _ (.tail _ (.head _))))) rfl) (op_val (.int .i64 j) (by go_simp) ⟨_, rfl, Below.refl _ _, rfl⟩)
      | 41, _ =>
        have k0 := ev (show a1.eval (.tmp 216) = _ from hV ⟨39, .data⟩ (by first | exact .head _ | exact .tail _ (.head _) | exact .tail _ (.tail _ (.head _)) | exact .tail _ (.tail _ (.tail _ (.head _))) | exact .tail _ (.tail _ (.tail _ (.tail _ (.head _))))) rfl)
        have k1 := ev (show a1.eval (.tmp 217) = _ from hV ⟨40, .data⟩ (by first | exact .head _ | exact .tail _ (.head _) | exact .tail _ (.tail _ (.head _)) | exact .tail _ (.tail _ (.tail _ (.head _))) | exact .tail _ (.tail _ (.tail _ (.tail _ (.head _))))) rfl)
        exact op_guardT rfl rfl rfl (show a1.eval (.tmp 208) = .bool true from hV ⟨31, .guard⟩ (by first | exact .head _ | exact .tail _ (.head _) | exact .tail _ (.tail _ (.head _)) | exact .tail _ (.tail _ (.tail _ (.head _))) | exact .tail _ (.tail _ (.tail _ (.tail _ (.head _))))) rfl) (op_val (.pointer (some ⟨p2, o2 + j * 3, none⟩)) (by go_simp) ⟨_, rfl, Below.refl _ _, rfl⟩)
      | 42, _ =>
        have k0 := ev (show a1.eval (.tmp 218) = _ from hV ⟨41, .data⟩ (by first | exact .head _ | exact .tail _ (.head _) | exact .tail _ (.tail _ (.head _)) | exact .tail _ (.tail _ (.tail _ (.head _))) | exact .tail _ (.tail _ (.tail _ (.tail _ (.head _))))) rfl)
        exact op_guardT rfl rfl rfl (show a1.eval (.tmp 208) = .bool true from hV ⟨31, .guard⟩ (by first | exact .head _ | exact .tail _ (.head _) | exact .tail _ (.tail _ (.head _)) | exact .tail _ (.tail _ (.tail _ (.head _))) | exact .tail _ (.tail _ (.tail _ (.tail _ (.head _))))) rfl) (op_val (.pointer (some ⟨p2, o2 + j * 3 + 2, none⟩)) (by go_simp) ⟨_, rfl, Below.refl _ _, rfl⟩)
      | 43, _ =>
        have k0 := ev (show a1.eval (.tmp 219) = _ from hV ⟨42, .data⟩ (by first | exact .head _ | exact .tail _ (.head _) | exact .tail _ (.tail _ (.head _)) | exact .tail _ (.tail _ (.tail _ (.head _))) | exact .tail _ (.tail _ (.tail _ (.tail _ (.head _))))) rfl)
        exact op_guardT rfl rfl rfl (show a1.eval (.tmp 208) = .bool true from hV ⟨31, .guard⟩ (by first | exact .head _ | exact .tail _ (.head _) | exact .tail _ (.tail _ (.head _)) | exact .tail _ (.tail _ (.tail _ (.head _))) | exact .tail _ (.tail _ (.tail _ (.tail _ (.head _))))) rfl) (op_val (.slice y.bo.A (len y.bo.f) y.bo.c) (by go_simp) ⟨_, rfl, Below.refl _ _, rfl⟩)
      | 44, _ =>
        have k0 := ev (show a1.eval (.tmp 214) = _ from hV ⟨37, .data⟩ (by first | exact .head _ | exact .tail _ (.head _) | exact .tail _ (.tail _ (.head _)) | exact .tail _ (.tail _ (.tail _ (.head _))) | exact .tail _ (.tail _ (.tail _ (.tail _ (.head _))))) rfl)
        have k1 := ev (show a1.eval (.tmp 220) = _ from hV ⟨43, .data⟩ (by first | exact .head _ | exact .tail _ (.head _) | exact .tail _ (.tail _ (.head _)) | exact .tail _ (.tail _ (.tail _ (.head _))) | exact .tail _ (.tail _ (.tail _ (.tail _ (.head _))))) rfl)
        have HQ := Lib.hid (Code_eq x.bo y.bo w1 hkx.bo hky.bo EQ_bo.out)
        refine op_guardT rfl rfl rfl (show a1.eval (.tmp 208) = .bool true from hV ⟨31, .guard⟩ (by first | exact .head _ | exact .tail _ (.head _) | exact .tail _ (.tail _ (.head _)) | exact .tail _ (.tail _ (.tail _ (.head _))) | exact .tail _ (.tail _ (.tail _ (.tail _ (.head _))))) rfl) ?_
        go_simp
        refine HQ.out.mono ?_
        rintro e w' ⟨rfl, hb⟩
        exact ⟨_, rfl, hb, rfl⟩
      | 45, _ =>
        have k0 := ev (show a1.eval (.tmp 208) = _ from hV ⟨31, .data⟩ (by first | exact .head _ | exact .tail _ (.head _) | exact .tail _ (.tail _ (.head _)) | exact .tail _ (.tail _ (.tail _ (.head _))) | exact .tail _ (.tail _ (.tail _ (.tail _ (.head _))))) rfl)
        have k1 := ev (show a1.eval (.tmp 221) = _ from hV ⟨44, .data⟩ (by first | exact .head _ | exact .tail _ (.head _) | exact .tail _ (.tail _ (.head _)) | exact .tail _ (.tail _ (.tail _ (.head _))) | exact .tail _ (.tail _ (.tail _ (.tail _ (.head _))))) rfl)
        exact op_plain rfl rfl (op_val (.bool true) (by go_simp) ⟨_, rfl, Below.refl _ _, rfl⟩)
      | k + 46, h => exact absurd h (by omega)
    · intro a1 w1 hB hV
      have hbw : Below wr.heap.size wr w1 := ((Below.refl wr.heap.size wr).drew).trans hB.below
      have x2 := (hB.same 2 (fun i _ => by omega)).trans e2
      have x3 := (hB.same 3 (fun i _ => by omega)).trans e3
      have x4 := (hB.same 8 (fun i _ => by omega)).trans e4
      have kz := ev (show a1.eval (.tmp 222) = .bool true from hV 45 (by omega))
      have HS1 := Lib.hid (hB.size.trans hsz)
      have hd1 := hB.defers.trans hd
      clear hV
      refine ready_one (i := 46) (by kernel_rfl) rfl rfl ?_
      refine op_val (.bool true) (by go_simp) ?_
      refine ready_none (by kernel_rfl) ?_
      change Exit.inBlock _ _ _ (a1.put (some 5) (.bool true)) w1
      generalize ha3 : a1.put (some 5) (.bool true) = a3
      have s3 : Hid (a3.tmps.size = 464) := Lib.hid (by rw [← ha3]; simp only [size_put, HS1.out])
      have d3 : a3.defers = [] := by rw [← ha3, defers_put, hd1]
      have F2 : (fun i => a3.eval (.tmp i)) 2 = .pointer (some ⟨b1, 0, none⟩) := by rw [← ha3]; simp only [eval_put]; exact x2
      have F3 : (fun i => a3.eval (.tmp i)) 3 = .pointer (some ⟨b1 + 1, 0, none⟩) := by rw [← ha3]; simp only [eval_put]; exact x3
      have F4 : (fun i => a3.eval (.tmp i)) 8 = .int .i64 j := by rw [← ha3]; simp only [eval_put]; exact x4
      have F5 : (fun i => a3.eval (.tmp i)) 5 = .bool true := by rw [← ha3]; simp [eval_put, HS1.out]
      rw [fz_of a3 s3.out d3]
      generalize (fun i => a3.eval (.tmp i)) = f' at F2 F3 F4 F5 ⊢
      clear s3 d3 ha3 a3 kz x2 x3 x4 HS1 hd1 hB e2 e3 e4 e5 hsz hd a1 a
      unfold fz
      simp only [F2, F3, F4, F5]
      go_wp2_with fail
      refine ⟨⟨⟨rfl, rfl, rfl, rfl, rfl⟩, j + 1, by show Value.int .i64 _ = _; go_num, by omega, hbel.trans (hbw.mono hbel.size)⟩, ?_⟩
      show m.fn.l.length - (intOf (.int .i64 _)).toNat < m.fn.l.length - (intOf (.int .i64 _)).toNat
      simp [intOf]
      omega
  · have HX := Lib.hid (fun a (hf : Fz b1 a) => hexit a wr hf hbel)
    clear hexit hkey
    conv => arg 2; whnf
    unfold fz
    simp only [h2, h3, h4, h5]
    go_wp2_with fail
    exact HX.out _ ⟨rfl, rfl, rfl, rfl, rfl⟩
end Go.Proofs.YtmdgemdollfnhaaGreatDoor
