/- The reference's CopyModule: its first region, and the whole. -/
import Derived.Test.YtmdgemdollfnhaaGreatDoorTreeQLa
import Derived.Test.YtmdgemdollfnhaaGreatDoorTreeQLb
import Derived.Test.YtmdgemdollfnhaaGreatDoorTreeS6
namespace Go.Proofs.YtmdgemdollfnhaaGreatDoor
open Go.RowKit Trx

theorem elem_Im : ElemK Tryz.prog 76 8 80 := ElemK.mk_ (z := .agg #[.string ⟨#[]⟩, .string ⟨#[]⟩, .int .i64 0, .int .i64 0, .bool false, .int .i64 0, .int .i64 0, .bool false]) (by kernel_rfl) rfl
theorem Im.ones (l : List Im) : (∀ r ∈ l.map Im.cells, r.length = 8) ∧ ∀ r ∈ l.map Im.cells, ∀ u ∈ r, u.oneCell' = true := by
  refine ⟨fun r hr => ?_, fun r hr u hu => ?_⟩ <;> obtain ⟨x, -, rfl⟩ := List.mem_map.1 hr
  · rfl
  · simp [Im.cells] at hu
    rcases hu with rfl | rfl | rfl | rfl | rfl | rfl | rfl | rfl <;> rfl
theorem elem_Lm : ElemK Tryz.prog 74 3 24 := ElemK.mk_ (z := .agg #[.int .i64 0, .int .i64 0, .bool false]) (by kernel_rfl) rfl
theorem Lm.ones (l : List Lm) : (∀ r ∈ l.map Lm.cells, r.length = 3) ∧ ∀ r ∈ l.map Lm.cells, ∀ u ∈ r, u.oneCell' = true := by
  refine ⟨fun r hr => ?_, fun r hr u hu => ?_⟩ <;> obtain ⟨x, -, rfl⟩ := List.mem_map.1 hr
  · rfl
  · simp [Lm.cells] at hu
    rcases hu with rfl | rfl | rfl <;> rfl
theorem elem_Ex : ElemK Tryz.prog 84 3 32 := ElemK.mk_ (z := .agg #[.string ⟨#[]⟩, .int .i64 0, .int .i64 0]) (by kernel_rfl) rfl
theorem Ex.ones (l : List Ex) : (∀ r ∈ l.map Ex.cells, r.length = 3) ∧ ∀ r ∈ l.map Ex.cells, ∀ u ∈ r, u.oneCell' = true := by
  refine ⟨fun r hr => ?_, fun r hr u hu => ?_⟩ <;> obtain ⟨x, -, rfl⟩ := List.mem_map.1 hr
  · rfl
  · simp [Ex.cells] at hu
    rcases hu with rfl | rfl | rfl <;> rfl
/-- what each operation of the region leaves in its slot. -/
def VR (m : Mo) (b0 lo : Nat) : Nat → Value → World → Prop
  | 0, v, _ => v = .pointer (some ⟨b0, 7, none⟩)
  | 1, v, _ => v = .int .i64 m.st
  | 2, v, _ => ∃ p, v = .slice (some p) 0 0
  | 3, v, _ => v = .pointer (some ⟨b0, 1, none⟩)
  | 4, v, _ => v = m.im.v
  | 5, v, w => ∃ s : SL Im, v = s.v ∧ s.l = m.im.l ∧ Hang (WinT lo 76 w) w (fun w B => s.ok Im.cells (fun _ _ => Im.ok) 8 80 w B)
  | 6, v, _ => ∃ p, v = .slice (some p) 0 0
  | 7, v, _ => v = .pointer (some ⟨b0, 3, none⟩)
  | 8, v, _ => v = m.ta.v
  | 9, v, w => ∃ s : SL Lm, v = s.v ∧ s.l = m.ta.l ∧ Hang (WinT lo 74 w) w (fun w B => s.ok Lm.cells (fun _ _ => Lm.ok) 3 24 w B)
  | 10, v, _ => ∃ p, v = .slice (some p) 0 0
  | 11, v, _ => v = .pointer (some ⟨b0, 4, none⟩)
  | 12, v, _ => v = m.me.v
  | 13, v, w => ∃ s : SL Lm, v = s.v ∧ s.l = m.me.l ∧ Hang (WinT lo 74 w) w (fun w B => s.ok Lm.cells (fun _ _ => Lm.ok) 3 24 w B)
  | 14, v, _ => ∃ p, v = .slice (some p) 0 0
  | 15, v, _ => v = .pointer (some ⟨b0, 6, none⟩)
  | 16, v, _ => v = m.ex.v
  | 17, v, w => ∃ s : SL Ex, v = s.v ∧ s.l = m.ex.l ∧ Hang (WinT lo 84 w) w (fun w B => s.ok Ex.cells (fun _ _ => Ex.ok) 3 32 w B)
  | 18, v, w => ∃ (si : SL Im) (st se : SL Lm) (sx : SL Ex), v = .agg #[.slice none 0 0, si.v, .slice none 0 0, st.v, se.v, .slice none 0 0, sx.v, .int .i64 m.st, .slice none 0 0, .slice none 0 0, .slice none 0 0] ∧ si.l = m.im.l ∧ st.l = m.ta.l ∧ se.l = m.me.l ∧ sx.l = m.ex.l ∧ Hang (WinT lo 76 w) w (fun w B => si.ok Im.cells (fun _ _ => Im.ok) 8 80 w B) ∧ Hang (WinT lo 74 w) w (fun w B => st.ok Lm.cells (fun _ _ => Lm.ok) 3 24 w B) ∧ Hang (WinT lo 74 w) w (fun w B => se.ok Lm.cells (fun _ _ => Lm.ok) 3 24 w B) ∧ Hang (WinT lo 84 w) w (fun w B => sx.ok Ex.cells (fun _ _ => Ex.ok) 3 32 w B)
  | 19, v, w => ∃ g : Nat, v = .pointer (some ⟨g, 0, none⟩) ∧ lo ≤ g ∧ g < w.heap.size ∧ w.heap[g]? = some (.cells #[Value.slice none 0 0, Value.slice none 0 0, Value.slice none 0 0, Value.slice none 0 0, Value.slice none 0 0, Value.slice none 0 0, Value.slice none 0 0, Value.int .i64 0, Value.slice none 0 0, Value.slice none 0 0, Value.slice none 0 0] 32)
  | _, _, _ => True
theorem VR.mono {m : Mo} {b0 lo : Nat} (i : Nat) (v : Value) (w w' : World) (h : VR m b0 lo i v w) (hb : Below w.heap.size w w') : VR m b0 lo i v w' := by
  unfold VR at *
  split at h
  all_goals try exact h
  · obtain ⟨s, h1, h2, h3⟩ := h; exact ⟨s, h1, h2, h3.laterT hb⟩
  · obtain ⟨s, h1, h2, h3⟩ := h; exact ⟨s, h1, h2, h3.laterT hb⟩
  · obtain ⟨s, h1, h2, h3⟩ := h; exact ⟨s, h1, h2, h3.laterT hb⟩
  · obtain ⟨s, h1, h2, h3⟩ := h; exact ⟨s, h1, h2, h3.laterT hb⟩
  · obtain ⟨si, st, se, sx, h1, h2, h3, h4, h5, h6, h7, h8, h9⟩ := h; exact ⟨si, st, se, sx, h1, h2, h3, h4, h5, h6.laterT hb, h7.laterT hb, h8.laterT hb, h9.laterT hb⟩
  · obtain ⟨g, h1, h2, h3, h4⟩ := h; exact ⟨g, h1, h2, Nat.lt_of_lt_of_le h3 hb.size, by rw [hb.block g h3]; exact h4⟩
def dR (i : Nat) : Nat := if i = 19 then 3 else i + 11
theorem cell_of_heap {w : World} {g k : Nat} {c : Array Value} {t : TypeId} (h : w.heap[g]? = some (.cells c t)) : w.cell? ⟨g, k, none⟩ = c[k]? := by simp [World.cell?, h]
theorem frozen_of_heap {w : World} {g k : Nat} {c : Array Value} {t : TypeId} (h : w.heap[g]? = some (.cells c t)) : w.frozen? ⟨g, k, none⟩ = false := by simp [World.frozen?, h]

set_option maxHeartbeats 16000000 in
set_option maxRecDepth 100000 in
theorem CopyModule_any (m : Mo) (w : World) (hm : m.ok w w.heap.size) :
    Calls Tryz.prog 6 #[moV m] w fun e w' => ∃ c : Mo, e = .returned (moV c) ∧ c.ok w' w'.heap.size ∧ keyM c = keyM m ∧ Below w.heap.size w w' := by
  have HM := Lib.hid hm
  clear hm
  go_enter Tryz.func6, Tryz.ntmps6
  go_wp2_with fail
  rename_i K hK
  refine gen_act 0 208 (v1 := .pointer (some ⟨w.heap.size, 0, none⟩)) (v2 := .pointer (some ⟨w.heap.size + 1, 0, none⟩)) _ rfl rfl rfl rfl rfl rfl ?_
  intro a hsz hd e1 e2 e3_ e0_
  obtain ⟨w0, hw0⟩ : ∃ w0, w0 = (w.alloc (.cells m.cells.toArray 32)).alloc (.cells #[Value.slice none 0 0, Value.slice none 0 0, Value.slice none 0 0, Value.slice none 0 0, Value.slice none 0 0, Value.slice none 0 0, Value.slice none 0 0, Value.int .i64 0, Value.slice none 0 0, Value.slice none 0 0, Value.slice none 0 0] 32) := ⟨_, rfl⟩
  have hs0 : w0.heap.size = w.heap.size + 2 := by rw [hw0]; simp
  have hb0 : Below w.heap.size w w0 := by rw [hw0]; exact ((Below.refl _ _).alloc (Nat.le_refl _) _).alloc (by simp) _
  have hbx : ∀ i, w0.cell? ⟨w.heap.size, i, none⟩ = m.cells.toArray[i]? := fun i => by rw [hw0, World.cell?_alloc_past _ _ _ (by simp)]; exact World.cell?_alloc_at _ _ _ _ rfl
  have hrc : ∀ i, w0.cell? ⟨w.heap.size + 1, i, none⟩ = (#[Value.slice none 0 0, Value.slice none 0 0, Value.slice none 0 0, Value.slice none 0 0, Value.slice none 0 0, Value.slice none 0 0, Value.slice none 0 0, Value.int .i64 0, Value.slice none 0 0, Value.slice none 0 0, Value.slice none 0 0] : Array Value)[i]? := fun i => by rw [hw0]; exact World.cell?_alloc_at _ _ _ _ (by simp)
  have hrf : ∀ i, w0.frozen? ⟨w.heap.size + 1, i, none⟩ = false := fun i => by rw [hw0]; exact World.frozen?_alloc_at _ _ _ _ (by simp)
  have hC : CmC m w0 w.heap.size := ⟨by omega, fun i _ => by rw [hbx i]; simp, HM.out.below hb0⟩
  change Code.wp _ _ _ a ((w.alloc (.cells m.cells.toArray 32)).alloc (.cells #[Value.slice none 0 0, Value.slice none 0 0, Value.slice none 0 0, Value.slice none 0 0, Value.slice none 0 0, Value.slice none 0 0, Value.slice none 0 0, Value.int .i64 0, Value.slice none 0 0, Value.slice none 0 0, Value.slice none 0 0] 32))
  rw [← hw0]
  clear hw0
  obtain ⟨b0, hb0e⟩ : ∃ b0, b0 = w.heap.size := ⟨_, rfl⟩
  rw [← hb0e] at e1 e2 hbx hrc hrf hC
  have HHK := Lib.hid hK
  have HB0 := Lib.hid hb0e
  have HBX := Lib.hid hbx
  have HRC := Lib.hid hrc
  have HRF := Lib.hid hrf
  have HS0 := Lib.hid hs0
  have HBel := Lib.hid hb0
  clear hK hb0e hbx hrc hrf hs0 hb0
  refine region_vals 20 21 (VR m b0 w0.heap.size) dR a w0 (by kernel_rfl) rfl (by omega) (by kernel_rfl) (by kernel_rfl) (by kernel_rfl) (by rw [hsz]; kernel_rfl) VR.mono ?_ ?_
  · intro i hi a1 w1 hB hV
    have hbw : Below w0.heap.size w0 w1 := ((Below.refl w0.heap.size w0).drew).trans hB.below
    have z1 := ev ((hB.same 1 (fun i _ => by unfold dR; split <;> omega)).trans e1)
    have hok1 := hC.ok.keep hbw.size (Below.kp hbw)
    have c1 : w1.cell? ⟨b0, 1, none⟩ = some (m.im.v) := (hbw.cell (p := ⟨b0, 1, none⟩) hC.lt).trans (hC.box 1 (by omega))
    have c3 : w1.cell? ⟨b0, 3, none⟩ = some (m.ta.v) := (hbw.cell (p := ⟨b0, 3, none⟩) hC.lt).trans (hC.box 3 (by omega))
    have c4 : w1.cell? ⟨b0, 4, none⟩ = some (m.me.v) := (hbw.cell (p := ⟨b0, 4, none⟩) hC.lt).trans (hC.box 4 (by omega))
    have c6 : w1.cell? ⟨b0, 6, none⟩ = some (m.ex.v) := (hbw.cell (p := ⟨b0, 6, none⟩) hC.lt).trans (hC.box 6 (by omega))
    have c7 : w1.cell? ⟨b0, 7, none⟩ = some (.int .i64 m.st) := (hbw.cell (p := ⟨b0, 7, none⟩) hC.lt).trans (hC.box 7 (by omega))
    match i, hi with
    | 0, _ =>
      exact op_plain rfl rfl (op_val (.pointer (some ⟨b0, 7, none⟩)) (by go_simp) ⟨_, rfl, Below.refl _ _, rfl⟩)
    | 1, _ =>
      have k0 := ev (show a1.eval (.tmp 11) = _ from hV ⟨0, .data⟩ (.head _) rfl)
      exact op_plain rfl rfl (op_val (.int .i64 m.st) (by go_simp) ⟨_, rfl, Below.refl _ _, rfl⟩)
    | 2, _ =>
      exact op_plain rfl rfl (by go_simp; exact ⟨_, rfl, (Below.refl _ _).alloc (Nat.le_refl _) _, ⟨_, rfl⟩⟩)
    | 3, _ =>
      exact op_plain rfl rfl (op_val (.pointer (some ⟨b0, 1, none⟩)) (by go_simp) ⟨_, rfl, Below.refl _ _, rfl⟩)
    | 4, _ =>
      have k0 := ev (show a1.eval (.tmp 14) = _ from hV ⟨3, .data⟩ (.head _) rfl)
      exact op_plain rfl rfl (op_val (m.im.v) (by go_simp) ⟨_, rfl, Below.refl _ _, rfl⟩)
    | 5, _ =>
      obtain ⟨p, k0⟩ : ∃ p, a1.eval (.tmp 13) = .slice (some p) 0 0 := hV ⟨2, .data⟩ (.head _) rfl
      have k1 : a1.eval (.tmp 15) = m.im.v := hV ⟨4, .data⟩ (.tail _ (.head _)) rfl
      have hi1 := hok1.im
      refine op_plain rfl rfl (op_catT (.tmp 13) (.tmp 15) _ rfl 80 Tryz.underlying23 elem_Im (by decide) p k0 k1 hi1.rows (Im.ones _).1 (by simp) (Im.ones _).2 (by have := hi1.rb; unfold RB at this; omega) (by have := hi1.le; have := hi1.c; omega) fun A' c' w' y1 y2 y3 y4 => ?_)
      exact ⟨_, rfl, y3, ⟨m.im.l, A', c'⟩, rfl, rfl, (show Hang (WinT w1.heap.size 76 w') w' (fun w B => (⟨m.im.l, A', c'⟩ : SL Im).ok Im.cells (fun _ _ => Im.ok) 8 80 w B) from y4.imp fun _ _ h => ⟨y1, y2, hi1.rb, h, hi1.all⟩).lowerT hbw.size⟩
    | 6, _ =>
      exact op_plain rfl rfl (by go_simp; exact ⟨_, rfl, (Below.refl _ _).alloc (Nat.le_refl _) _, ⟨_, rfl⟩⟩)
    | 7, _ =>
      exact op_plain rfl rfl (op_val (.pointer (some ⟨b0, 3, none⟩)) (by go_simp) ⟨_, rfl, Below.refl _ _, rfl⟩)
    | 8, _ =>
      have k0 := ev (show a1.eval (.tmp 18) = _ from hV ⟨7, .data⟩ (.head _) rfl)
      exact op_plain rfl rfl (op_val (m.ta.v) (by go_simp) ⟨_, rfl, Below.refl _ _, rfl⟩)
    | 9, _ =>
      obtain ⟨p, k0⟩ : ∃ p, a1.eval (.tmp 17) = .slice (some p) 0 0 := hV ⟨6, .data⟩ (.head _) rfl
      have k1 : a1.eval (.tmp 19) = m.ta.v := hV ⟨8, .data⟩ (.tail _ (.head _)) rfl
      have hi1 := hok1.ta
      refine op_plain rfl rfl (op_catT (.tmp 17) (.tmp 19) _ rfl 24 Tryz.underlying25 elem_Lm (by decide) p k0 k1 hi1.rows (Lm.ones _).1 (by simp) (Lm.ones _).2 (by have := hi1.rb; unfold RB at this; omega) (by have := hi1.le; have := hi1.c; omega) fun A' c' w' y1 y2 y3 y4 => ?_)
      exact ⟨_, rfl, y3, ⟨m.ta.l, A', c'⟩, rfl, rfl, (show Hang (WinT w1.heap.size 74 w') w' (fun w B => (⟨m.ta.l, A', c'⟩ : SL Lm).ok Lm.cells (fun _ _ => Lm.ok) 3 24 w B) from y4.imp fun _ _ h => ⟨y1, y2, hi1.rb, h, hi1.all⟩).lowerT hbw.size⟩
    | 10, _ =>
      exact op_plain rfl rfl (by go_simp; exact ⟨_, rfl, (Below.refl _ _).alloc (Nat.le_refl _) _, ⟨_, rfl⟩⟩)
    | 11, _ =>
      exact op_plain rfl rfl (op_val (.pointer (some ⟨b0, 4, none⟩)) (by go_simp) ⟨_, rfl, Below.refl _ _, rfl⟩)
    | 12, _ =>
      have k0 := ev (show a1.eval (.tmp 22) = _ from hV ⟨11, .data⟩ (.head _) rfl)
      exact op_plain rfl rfl (op_val (m.me.v) (by go_simp) ⟨_, rfl, Below.refl _ _, rfl⟩)
    | 13, _ =>
      obtain ⟨p, k0⟩ : ∃ p, a1.eval (.tmp 21) = .slice (some p) 0 0 := hV ⟨10, .data⟩ (.head _) rfl
      have k1 : a1.eval (.tmp 23) = m.me.v := hV ⟨12, .data⟩ (.tail _ (.head _)) rfl
      have hi1 := hok1.me
      refine op_plain rfl rfl (op_catT (.tmp 21) (.tmp 23) _ rfl 24 Tryz.underlying25 elem_Lm (by decide) p k0 k1 hi1.rows (Lm.ones _).1 (by simp) (Lm.ones _).2 (by have := hi1.rb; unfold RB at this; omega) (by have := hi1.le; have := hi1.c; omega) fun A' c' w' y1 y2 y3 y4 => ?_)
      exact ⟨_, rfl, y3, ⟨m.me.l, A', c'⟩, rfl, rfl, (show Hang (WinT w1.heap.size 74 w') w' (fun w B => (⟨m.me.l, A', c'⟩ : SL Lm).ok Lm.cells (fun _ _ => Lm.ok) 3 24 w B) from y4.imp fun _ _ h => ⟨y1, y2, hi1.rb, h, hi1.all⟩).lowerT hbw.size⟩
    | 14, _ =>
      exact op_plain rfl rfl (by go_simp; exact ⟨_, rfl, (Below.refl _ _).alloc (Nat.le_refl _) _, ⟨_, rfl⟩⟩)
    | 15, _ =>
      exact op_plain rfl rfl (op_val (.pointer (some ⟨b0, 6, none⟩)) (by go_simp) ⟨_, rfl, Below.refl _ _, rfl⟩)
    | 16, _ =>
      have k0 := ev (show a1.eval (.tmp 26) = _ from hV ⟨15, .data⟩ (.head _) rfl)
      exact op_plain rfl rfl (op_val (m.ex.v) (by go_simp) ⟨_, rfl, Below.refl _ _, rfl⟩)
    | 17, _ =>
      obtain ⟨p, k0⟩ : ∃ p, a1.eval (.tmp 25) = .slice (some p) 0 0 := hV ⟨14, .data⟩ (.head _) rfl
      have k1 : a1.eval (.tmp 27) = m.ex.v := hV ⟨16, .data⟩ (.tail _ (.head _)) rfl
      have hi1 := hok1.ex
      refine op_plain rfl rfl (op_catT (.tmp 25) (.tmp 27) _ rfl 32 Tryz.underlying27 elem_Ex (by decide) p k0 k1 hi1.rows (Ex.ones _).1 (by simp) (Ex.ones _).2 (by have := hi1.rb; unfold RB at this; omega) (by have := hi1.le; have := hi1.c; omega) fun A' c' w' y1 y2 y3 y4 => ?_)
      exact ⟨_, rfl, y3, ⟨m.ex.l, A', c'⟩, rfl, rfl, (show Hang (WinT w1.heap.size 84 w') w' (fun w B => (⟨m.ex.l, A', c'⟩ : SL Ex).ok Ex.cells (fun _ _ => Ex.ok) 3 32 w B) from y4.imp fun _ _ h => ⟨y1, y2, hi1.rb, h, hi1.all⟩).lowerT hbw.size⟩
    | 18, _ =>
      have k0 := ev (show a1.eval (.tmp 12) = _ from hV ⟨1, .data⟩ (.head _) rfl)
      obtain ⟨si, j0, r0, h0⟩ : ∃ s : SL Im, a1.eval (.tmp 16) = s.v ∧ s.l = m.im.l ∧ Hang (WinT w0.heap.size 76 w1) w1 (fun w B => s.ok Im.cells (fun _ _ => Im.ok) 8 80 w B) := hV ⟨5, .data⟩ (.tail _ (.head _)) rfl
      have j0 := ev j0
      obtain ⟨st, j1, r1, h1⟩ : ∃ s : SL Lm, a1.eval (.tmp 20) = s.v ∧ s.l = m.ta.l ∧ Hang (WinT w0.heap.size 74 w1) w1 (fun w B => s.ok Lm.cells (fun _ _ => Lm.ok) 3 24 w B) := hV ⟨9, .data⟩ (.tail _ (.tail _ (.head _))) rfl
      have j1 := ev j1
      obtain ⟨se, j2, r2, h2⟩ : ∃ s : SL Lm, a1.eval (.tmp 24) = s.v ∧ s.l = m.me.l ∧ Hang (WinT w0.heap.size 74 w1) w1 (fun w B => s.ok Lm.cells (fun _ _ => Lm.ok) 3 24 w B) := hV ⟨13, .data⟩ (.tail _ (.tail _ (.tail _ (.head _)))) rfl
      have j2 := ev j2
      obtain ⟨sx, j3, r3, h3⟩ : ∃ s : SL Ex, a1.eval (.tmp 28) = s.v ∧ s.l = m.ex.l ∧ Hang (WinT w0.heap.size 84 w1) w1 (fun w B => s.ok Ex.cells (fun _ _ => Ex.ok) 3 32 w B) := hV ⟨17, .data⟩ (.tail _ (.tail _ (.tail _ (.tail _ (.head _))))) rfl
      have j3 := ev j3
      exact op_plain rfl rfl (op_val (.agg #[.slice none 0 0, si.v, .slice none 0 0, st.v, se.v, .slice none 0 0, sx.v, .int .i64 m.st, .slice none 0 0, .slice none 0 0, .slice none 0 0]) (by go_simp) ⟨_, rfl, Below.refl _ _, si, st, se, sx, rfl, r0, r1, r2, r3, h0, h1, h2, h3⟩)
    | 19, _ =>
      exact op_plain rfl rfl (by go_simp; exact ⟨_, rfl, (Below.refl _ _).alloc (Nat.le_refl _) _, w1.heap.size, rfl, hbw.size, by simp, heap_alloc_new _ _⟩)
    | n + 20, h => exact absurd h (by omega)
  · intro a1 w1 hB hV
    have hbw : Below w0.heap.size w0 w1 := ((Below.refl w0.heap.size w0).drew).trans hB.below
    have x1 := (hB.same 1 (fun i _ => by unfold dR; split <;> omega)).trans e1
    have x2 := (hB.same 2 (fun i _ => by unfold dR; split <;> omega)).trans e2
    obtain ⟨si, st, se, sx, k18, r0, r1, r2, r3, h0, h1, h2, h3⟩ : ∃ (si : SL Im) (st se : SL Lm) (sx : SL Ex), a1.eval (.tmp 29) = .agg #[.slice none 0 0, si.v, .slice none 0 0, st.v, se.v, .slice none 0 0, sx.v, .int .i64 m.st, .slice none 0 0, .slice none 0 0, .slice none 0 0] ∧ si.l = m.im.l ∧ st.l = m.ta.l ∧ se.l = m.me.l ∧ sx.l = m.ex.l ∧ Hang (WinT w0.heap.size 76 w1) w1 (fun w B => si.ok Im.cells (fun _ _ => Im.ok) 8 80 w B) ∧ Hang (WinT w0.heap.size 74 w1) w1 (fun w B => st.ok Lm.cells (fun _ _ => Lm.ok) 3 24 w B) ∧ Hang (WinT w0.heap.size 74 w1) w1 (fun w B => se.ok Lm.cells (fun _ _ => Lm.ok) 3 24 w B) ∧ Hang (WinT w0.heap.size 84 w1) w1 (fun w B => sx.ok Ex.cells (fun _ _ => Ex.ok) 3 32 w B) := hV 18 (by omega)
    obtain ⟨g0, k19, hg1, hg2, hg3⟩ : ∃ g : Nat, a1.eval (.tmp 3) = .pointer (some ⟨g, 0, none⟩) ∧ w0.heap.size ≤ g ∧ g < w1.heap.size ∧ w1.heap[g]? = some (.cells #[Value.slice none 0 0, Value.slice none 0 0, Value.slice none 0 0, Value.slice none 0 0, Value.slice none 0 0, Value.slice none 0 0, Value.slice none 0 0, Value.int .i64 0, Value.slice none 0 0, Value.slice none 0 0, Value.slice none 0 0] 32) := hV 19 (by omega)
    have hs1 := hB.size.trans hsz
    have hd1 := hB.defers.trans hd
    clear hV
    refine ready_one (i := 20) (by kernel_rfl) rfl rfl ?_
    have hth : w1.there g0 0 11 := fun k hk => ⟨by rw [cell_of_heap hg3]; simp; omega, frozen_of_heap hg3⟩
    refine wp_store_mid 32 (.tmp 3) (.tmp 29) rfl g0 0 #[.slice none 0 0, si.v, .slice none 0 0, st.v, se.v, .slice none 0 0, sx.v, .int .i64 m.st, .slice none 0 0, .slice none 0 0, .slice none 0 0] k19 k18 hth (by kernel_rfl) (by simp [Value.oneCell']) ?_
    refine ready_none (by kernel_rfl) ?_
    have hcm : ∀ {β : Type} (q' : World → Nat → β → Prop), Cm w0.heap.size g0 w0 (w1.setCells g0 0 #[.slice none 0 0, si.v, .slice none 0 0, st.v, se.v, .slice none 0 0, sx.v, .int .i64 m.st, .slice none 0 0, .slice none 0 0, .slice none 0 0].toList) (.slice none 0 0) [.slice none 0 0, si.v, .slice none 0 0, st.v, se.v, .slice none 0 0, sx.v, .int .i64 m.st, .slice none 0 0, .slice none 0 0, .slice none 0 0] q' [] [(fun w B => si.ok Im.cells (fun _ _ => Im.ok) 8 80 w B), (fun w B => st.ok Lm.cells (fun _ _ => Lm.ok) 3 24 w B), (fun w B => se.ok Lm.cells (fun _ _ => Lm.ok) 3 24 w B), (fun w B => sx.ok Ex.cells (fun _ _ => Ex.ok) 3 32 w B)] := fun q' => by
      have hmv : ∀ e F, e ≠ 32 → Hang (WinT w0.heap.size e w1) w1 F → Hang (Sx w0.heap.size g0 (w1.setCells g0 0 #[.slice none 0 0, si.v, .slice none 0 0, st.v, se.v, .slice none 0 0, sx.v, .int .i64 m.st, .slice none 0 0, .slice none 0 0, .slice none 0 0].toList) (.slice none 0 0)) (w1.setCells g0 0 #[.slice none 0 0, si.v, .slice none 0 0, st.v, se.v, .slice none 0 0, sx.v, .int .i64 m.st, .slice none 0 0, .slice none 0 0, .slice none 0 0].toList) F := fun e F hne hF => by
        have hx : ∀ b, WinT w0.heap.size e w1 b → b ≠ g0 := fun b hb hbg => by
          obtain ⟨-, c, f, h⟩ := hb
          subst hbg
          rw [hg3] at h
          injection h with h
          injection h with _ h
          exact hne h.symm
        exact hF.move (agr_of_heap fun b hb => setCells_other (hx b hb) _ _ _) (fun b hb => ⟨hb.1, by rw [setCells_size]; exact hb.lt, hx b hb, by simp [Value.ownBlock]⟩) (by rw [setCells_size]; exact Nat.le_refl _)
      refine ⟨hg1, by rw [setCells_size]; exact hg2, rfl, fun i hi => ?_, fun i => (World.frozen?_setCells _ _ _ _ _).trans (frozen_of_heap hg3), setCells_below hg1 _ _ _ hbw, by simp [Value.ownBlock], fun F hF => ?_, by simp⟩
      · have hr := World.rangeAt_setCells_same w1 g0 0 #[.slice none 0 0, si.v, .slice none 0 0, st.v, se.v, .slice none 0 0, sx.v, .int .i64 m.st, .slice none 0 0, .slice none 0 0, .slice none 0 0].toList hth i ((#[.slice none 0 0, si.v, .slice none 0 0, st.v, se.v, .slice none 0 0, sx.v, .int .i64 m.st, .slice none 0 0, .slice none 0 0, .slice none 0 0].toList)[i]'hi) (List.getElem?_eq_getElem _)
        rw [Nat.zero_add] at hr
        rw [hr]
        exact (List.getElem?_eq_getElem (l := [.slice none 0 0, si.v, .slice none 0 0, st.v, se.v, .slice none 0 0, sx.v, .int .i64 m.st, .slice none 0 0, .slice none 0 0, .slice none 0 0]) hi).symm
      · simp only [List.mem_cons, List.not_mem_nil, or_false] at hF
        rcases hF with rfl | rfl | rfl | rfl
        · exact hmv _ _ (by decide) h0
        · exact hmv _ _ (by decide) h1
        · exact hmv _ _ (by decide) h2
        · exact hmv _ _ (by decide) h3
    generalize w1.setCells g0 0 #[.slice none 0 0, si.v, .slice none 0 0, st.v, se.v, .slice none 0 0, sx.v, .int .i64 m.st, .slice none 0 0, .slice none 0 0, .slice none 0 0].toList = W at hcm ⊢
    have hf : Fm b0 g0 a1 := ⟨hs1, hd1, x1, x2, k19⟩
    clear hth hg3 hg2 hs1 hd1 x1 x2 k18 k19 h0 h1 h2 h3 hB hbw e1 e2 hsz hd e3_ e0_
    change K a1 W
    refine HHK.out _ _ ?_
    clear HHK K a w1
    have F1 : (fun i => a1.eval (.tmp i)) 1 = .pointer (some ⟨b0, 0, none⟩) := hf.e1
    have F2 : (fun i => a1.eval (.tmp i)) 2 = .pointer (some ⟨b0 + 1, 0, none⟩) := hf.e2
    have F3 : (fun i => a1.eval (.tmp i)) 3 = .pointer (some ⟨g0, 0, none⟩) := hf.e3
    rw [fr_of a1 hf.size hf.defers]
    generalize (fun i => a1.eval (.tmp i)) = f at F1 F2 F3 ⊢
    clear hf a1
    unfold fr
    simp only [F1, F2, F3]
    go_wp2_with fail
    clear F1 F2 F3
    refine loop_ty m w0 b0 g0 hC [.slice none 0 0, si.v, .slice none 0 0, st.v, se.v, .slice none 0 0, sx.v, .int .i64 m.st, .slice none 0 0, .slice none 0 0, .slice none 0 0] rfl _ _ ?_ _ _ ⟨rfl, rfl, rfl, rfl, rfl⟩ rfl (hcm Ty.ok)
    clear hcm W f
    intro a1 W s0 hf k0 hcm
    change ∀ {β : Type} (q' : World → Nat → β → Prop), Cm w0.heap.size g0 w0 W (.slice none 0 0) [s0.v, si.v, .slice none 0 0, st.v, se.v, .slice none 0 0, sx.v, .int .i64 m.st, .slice none 0 0, .slice none 0 0, .slice none 0 0] q' [] _ at hcm
    have F1 : (fun i => a1.eval (.tmp i)) 1 = .pointer (some ⟨b0, 0, none⟩) := hf.e1
    have F2 : (fun i => a1.eval (.tmp i)) 2 = .pointer (some ⟨b0 + 1, 0, none⟩) := hf.e2
    have F3 : (fun i => a1.eval (.tmp i)) 3 = .pointer (some ⟨g0, 0, none⟩) := hf.e3
    rw [fr_of a1 hf.size hf.defers]
    generalize (fun i => a1.eval (.tmp i)) = f at F1 F2 F3 ⊢
    clear hf a1
    unfold fr
    simp only [F1, F2, F3]
    go_wp2_with fail
    clear F1 F2 F3
    refine loop_fn m w0 b0 g0 hC [s0.v, si.v, .slice none 0 0, st.v, se.v, .slice none 0 0, sx.v, .int .i64 m.st, .slice none 0 0, .slice none 0 0, .slice none 0 0] rfl _ _ ?_ _ _ ⟨rfl, rfl, rfl, rfl, rfl⟩ rfl (hcm Fn.ok)
    clear hcm W f
    intro a1 W s2 hf k2 hcm
    change ∀ {β : Type} (q' : World → Nat → β → Prop), Cm w0.heap.size g0 w0 W (.slice none 0 0) [s0.v, si.v, s2.v, st.v, se.v, .slice none 0 0, sx.v, .int .i64 m.st, .slice none 0 0, .slice none 0 0, .slice none 0 0] q' [] _ at hcm
    have F1 : (fun i => a1.eval (.tmp i)) 1 = .pointer (some ⟨b0, 0, none⟩) := hf.e1
    have F2 : (fun i => a1.eval (.tmp i)) 2 = .pointer (some ⟨b0 + 1, 0, none⟩) := hf.e2
    have F3 : (fun i => a1.eval (.tmp i)) 3 = .pointer (some ⟨g0, 0, none⟩) := hf.e3
    rw [fr_of a1 hf.size hf.defers]
    generalize (fun i => a1.eval (.tmp i)) = f at F1 F2 F3 ⊢
    clear hf a1
    unfold fr
    simp only [F1, F2, F3]
    go_wp2_with fail
    clear F1 F2 F3
    refine loop_gl m w0 b0 g0 hC [s0.v, si.v, s2.v, st.v, se.v, .slice none 0 0, sx.v, .int .i64 m.st, .slice none 0 0, .slice none 0 0, .slice none 0 0] rfl _ _ ?_ _ _ ⟨rfl, rfl, rfl, rfl, rfl⟩ rfl (hcm Gl.ok)
    clear hcm W f
    intro a1 W s5 hf k5 hcm
    change ∀ {β : Type} (q' : World → Nat → β → Prop), Cm w0.heap.size g0 w0 W (.slice none 0 0) [s0.v, si.v, s2.v, st.v, se.v, s5.v, sx.v, .int .i64 m.st, .slice none 0 0, .slice none 0 0, .slice none 0 0] q' [] _ at hcm
    have F1 : (fun i => a1.eval (.tmp i)) 1 = .pointer (some ⟨b0, 0, none⟩) := hf.e1
    have F2 : (fun i => a1.eval (.tmp i)) 2 = .pointer (some ⟨b0 + 1, 0, none⟩) := hf.e2
    have F3 : (fun i => a1.eval (.tmp i)) 3 = .pointer (some ⟨g0, 0, none⟩) := hf.e3
    rw [fr_of a1 hf.size hf.defers]
    generalize (fun i => a1.eval (.tmp i)) = f at F1 F2 F3 ⊢
    clear hf a1
    unfold fr
    simp only [F1, F2, F3]
    go_wp2_with fail
    clear F1 F2 F3
    refine loop_el m w0 b0 g0 hC [s0.v, si.v, s2.v, st.v, se.v, s5.v, sx.v, .int .i64 m.st, .slice none 0 0, .slice none 0 0, .slice none 0 0] rfl _ _ ?_ _ _ ⟨rfl, rfl, rfl, rfl, rfl⟩ rfl (hcm El.ok)
    clear hcm W f
    intro a1 W s8 hf k8 hcm
    change ∀ {β : Type} (q' : World → Nat → β → Prop), Cm w0.heap.size g0 w0 W (.slice none 0 0) [s0.v, si.v, s2.v, st.v, se.v, s5.v, sx.v, .int .i64 m.st, s8.v, .slice none 0 0, .slice none 0 0] q' [] _ at hcm
    have F1 : (fun i => a1.eval (.tmp i)) 1 = .pointer (some ⟨b0, 0, none⟩) := hf.e1
    have F2 : (fun i => a1.eval (.tmp i)) 2 = .pointer (some ⟨b0 + 1, 0, none⟩) := hf.e2
    have F3 : (fun i => a1.eval (.tmp i)) 3 = .pointer (some ⟨g0, 0, none⟩) := hf.e3
    rw [fr_of a1 hf.size hf.defers]
    generalize (fun i => a1.eval (.tmp i)) = f at F1 F2 F3 ⊢
    clear hf a1
    unfold fr
    simp only [F1, F2, F3]
    go_wp2_with fail
    clear F1 F2 F3
    refine loop_da m w0 b0 g0 hC [s0.v, si.v, s2.v, st.v, se.v, s5.v, sx.v, .int .i64 m.st, s8.v, .slice none 0 0, .slice none 0 0] rfl _ _ ?_ _ _ ⟨rfl, rfl, rfl, rfl, rfl⟩ rfl (hcm Da.ok)
    clear hcm W f
    intro a1 W s9 hf k9 hcm
    change ∀ {β : Type} (q' : World → Nat → β → Prop), Cm w0.heap.size g0 w0 W (.slice none 0 0) [s0.v, si.v, s2.v, st.v, se.v, s5.v, sx.v, .int .i64 m.st, s8.v, s9.v, .slice none 0 0] q' [] _ at hcm
    have F1 : (fun i => a1.eval (.tmp i)) 1 = .pointer (some ⟨b0, 0, none⟩) := hf.e1
    have F2 : (fun i => a1.eval (.tmp i)) 2 = .pointer (some ⟨b0 + 1, 0, none⟩) := hf.e2
    have F3 : (fun i => a1.eval (.tmp i)) 3 = .pointer (some ⟨g0, 0, none⟩) := hf.e3
    rw [fr_of a1 hf.size hf.defers]
    generalize (fun i => a1.eval (.tmp i)) = f at F1 F2 F3 ⊢
    clear hf a1
    unfold fr
    simp only [F1, F2, F3]
    go_wp2_with fail
    clear F1 F2 F3
    refine loop_cu m w0 b0 g0 hC [s0.v, si.v, s2.v, st.v, se.v, s5.v, sx.v, .int .i64 m.st, s8.v, s9.v, .slice none 0 0] rfl _ _ ?_ _ _ ⟨rfl, rfl, rfl, rfl, rfl⟩ rfl (hcm Cu.ok)
    clear hcm W f
    intro a1 W s10 hf k10 hcm
    change ∀ {β : Type} (q' : World → Nat → β → Prop), Cm w0.heap.size g0 w0 W (.slice none 0 0) [s0.v, si.v, s2.v, st.v, se.v, s5.v, sx.v, .int .i64 m.st, s8.v, s9.v, s10.v] q' [] _ at hcm
    rename_i Qe K hK
    change K a1 W
    refine hK _ _ (wp_seq (wp_region_list ?_))
    clear hK K
    have hcm := hcm (fun (_ : World) (_ : Nat) (_ : Unit) => True)
    have hbw := hcm.below
    have hlo := hcm.hlo
    have hlt := hcm.lt
    have hs0 := HS0.out
    have hb0e := HB0.out
    have hr1 : W.rangeAt g0 0 [s0.v, si.v, s2.v, st.v, se.v, s5.v, sx.v, .int .i64 m.st, s8.v, s9.v, s10.v] := fun k v hv => by
      have hk : k < 11 := by rcases Nat.lt_or_ge k 11 with h | h; exact h; rw [List.getElem?_eq_none h] at hv; cases hv
      rw [Nat.zero_add, hcm.cells k hk]
      exact hv
    refine wpList_load_mid rfl 32 (.tmp 3) rfl g0 0 hf.e3 [s0.v, si.v, s2.v, st.v, se.v, s5.v, sx.v, .int .i64 m.st, s8.v, s9.v, s10.v] _ hr1 Tryz.underlying32 rfl (by kernel_rfl) ?_
    change wpList _ _ _ _ (a1.put (some 207) (.agg #[s0.v, si.v, s2.v, st.v, se.v, s5.v, sx.v, .int .i64 m.st, s8.v, s9.v, s10.v])) W
    have u207 : (a1.put (some 207) (.agg #[s0.v, si.v, s2.v, st.v, se.v, s5.v, sx.v, .int .i64 m.st, s8.v, s9.v, s10.v])).eval (.tmp 207) = .agg #[s0.v, si.v, s2.v, st.v, se.v, s5.v, sx.v, .int .i64 m.st, s8.v, s9.v, s10.v] := by simp [eval_put, hf.size]
    have u2 : (a1.put (some 207) (.agg #[s0.v, si.v, s2.v, st.v, se.v, s5.v, sx.v, .int .i64 m.st, s8.v, s9.v, s10.v])).eval (.tmp 2) = .pointer (some ⟨b0 + 1, 0, none⟩) := by simp only [eval_put]; exact hf.e2
    have u0 : (a1.put (some 207) (.agg #[s0.v, si.v, s2.v, st.v, se.v, s5.v, sx.v, .int .i64 m.st, s8.v, s9.v, s10.v])).defers = [] := by rw [defers_put]; exact hf.defers
    generalize (a1.put (some 207) (.agg #[s0.v, si.v, s2.v, st.v, se.v, s5.v, sx.v, .int .i64 m.st, s8.v, s9.v, s10.v])) = a2 at u207 u2 u0 ⊢
    have hth : W.there (b0 + 1) 0 11 := fun k hk => by
      have h1 : w0.heap.size > b0 + 1 := by omega
      rw [Nat.zero_add]
      exact ⟨by rw [hbw.cell (p := ⟨b0 + 1, k, none⟩) h1, HRC.out]; simp; omega, by rw [hbw.frozen (p := ⟨b0 + 1, k, none⟩) h1, HRF.out]⟩
    refine wpList_store_mid rfl 32 (.tmp 2) (.tmp 207) rfl (b0 + 1) 0 #[s0.v, si.v, s2.v, st.v, se.v, s5.v, sx.v, .int .i64 m.st, s8.v, s9.v, s10.v] u2 u207 hth (by kernel_rfl) (by simp [Value.oneCell']) ?_
    have hr2 : (W.setCells (b0 + 1) 0 #[s0.v, si.v, s2.v, st.v, se.v, s5.v, sx.v, .int .i64 m.st, s8.v, s9.v, s10.v].toList).rangeAt (b0 + 1) 0 #[s0.v, si.v, s2.v, st.v, se.v, s5.v, sx.v, .int .i64 m.st, s8.v, s9.v, s10.v].toList := World.rangeAt_setCells_same W (b0 + 1) 0 #[s0.v, si.v, s2.v, st.v, se.v, s5.v, sx.v, .int .i64 m.st, s8.v, s9.v, s10.v].toList hth
    have hbW : Below w.heap.size w (W.setCells (b0 + 1) 0 #[s0.v, si.v, s2.v, st.v, se.v, s5.v, sx.v, .int .i64 m.st, s8.v, s9.v, s10.v].toList) := setCells_below (by omega) _ _ _ (HBel.out.trans (hbw.mono HBel.out.size))
    have hok : ∀ F ∈ ([(fun w B => s10.ok Cu.cells Cu.ok 2 40 w B), (fun w B => s9.ok Da.cells Da.ok 10 144 w B), (fun w B => s8.ok El.cells El.ok 10 144 w B), (fun w B => s5.ok Gl.cells Gl.ok 11 136 w B), (fun w B => s2.ok Fn.cells Fn.ok 3 56 w B), (fun w B => s0.ok Ty.cells Ty.ok 2 48 w B), (fun w B => si.ok Im.cells (fun _ _ => Im.ok) 8 80 w B), (fun w B => st.ok Lm.cells (fun _ _ => Lm.ok) 3 24 w B), (fun w B => se.ok Lm.cells (fun _ _ => Lm.ok) 3 24 w B), (fun w B => sx.ok Ex.cells (fun _ _ => Ex.ok) 3 32 w B)] : List (World → Nat → Prop)), F (W.setCells (b0 + 1) 0 #[s0.v, si.v, s2.v, st.v, se.v, s5.v, sx.v, .int .i64 m.st, s8.v, s9.v, s10.v].toList) (W.setCells (b0 + 1) 0 #[s0.v, si.v, s2.v, st.v, se.v, s5.v, sx.v, .int .i64 m.st, s8.v, s9.v, s10.v].toList).heap.size := fun F hF => hcm.ds F hF _ _ (by rw [setCells_size]; exact Nat.le_refl _) (agr_of_heap fun b hb => setCells_other (by have := hb.1; omega) _ _ _)
    generalize W.setCells (b0 + 1) 0 #[s0.v, si.v, s2.v, st.v, se.v, s5.v, sx.v, .int .i64 m.st, s8.v, s9.v, s10.v].toList = W2 at hr2 hbW hok ⊢
    change Code.ret.wp _ Qe a2 W2
    refine wp_ret (bodyPost_ret (v := .agg #[s0.v, si.v, s2.v, st.v, se.v, s5.v, sx.v, .int .i64 m.st, s8.v, s9.v, s10.v]) ?_ u0 ⟨⟨s0, si, s2, st, se, s5, sx, m.st, s8, s9, s10⟩, rfl, ?_, ?_, hbW⟩)
    · have z2 := ev u2
      have hld := run_loadVar_mid (P := Tryz.prog) W2 (b0 + 1) 0 32 #[s0.v, si.v, s2.v, st.v, se.v, s5.v, sx.v, .int .i64 m.st, s8.v, s9.v, s10.v].toList _ hr2 Tryz.underlying32 rfl (by kernel_rfl)
      have HLD := Lib.hid hld
      clear hld
      simp [results, Tryz.results6, asAddr, z2, HLD.out]
    · exact ⟨hok (fun w B => s0.ok Ty.cells Ty.ok 2 48 w B) (.tail _ (.tail _ (.tail _ (.tail _ (.tail _ (.head _)))))), hok (fun w B => si.ok Im.cells (fun _ _ => Im.ok) 8 80 w B) (.tail _ (.tail _ (.tail _ (.tail _ (.tail _ (.tail _ (.head _))))))), hok (fun w B => s2.ok Fn.cells Fn.ok 3 56 w B) (.tail _ (.tail _ (.tail _ (.tail _ (.head _))))), hok (fun w B => st.ok Lm.cells (fun _ _ => Lm.ok) 3 24 w B) (.tail _ (.tail _ (.tail _ (.tail _ (.tail _ (.tail _ (.tail _ (.head _)))))))), hok (fun w B => se.ok Lm.cells (fun _ _ => Lm.ok) 3 24 w B) (.tail _ (.tail _ (.tail _ (.tail _ (.tail _ (.tail _ (.tail _ (.tail _ (.head _))))))))), hok (fun w B => s5.ok Gl.cells Gl.ok 11 136 w B) (.tail _ (.tail _ (.tail _ (.head _)))), hok (fun w B => sx.ok Ex.cells (fun _ _ => Ex.ok) 3 32 w B) (.tail _ (.tail _ (.tail _ (.tail _ (.tail _ (.tail _ (.tail _ (.tail _ (.tail _ (.head _)))))))))), HM.out.st, hok (fun w B => s8.ok El.cells El.ok 10 144 w B) (.tail _ (.tail _ (.head _))), hok (fun w B => s9.ok Da.cells Da.ok 10 144 w B) (.tail _ (.head _)), hok (fun w B => s10.ok Cu.cells Cu.ok 2 40 w B) (.head _)⟩
    · rw [keyM_iff]
      exact ⟨rfl, k0, r0, k2, r1, r2, k5, r3, k8, k9, k10⟩
end Go.Proofs.YtmdgemdollfnhaaGreatDoor
