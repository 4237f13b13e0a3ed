/- Contract of layer 6's writer: expr.putIns, by what stands behind the operation's byte. -/
import Derived.Test.YtbhniddgkdldlaaGreatDoorExprPc
set_option linter.unusedVariables false
set_option linter.unusedSimpArgs false
namespace Go.Proofs.YtbhniddgkdldlaaGreatDoor
open Go.RowKit Trx

theorem nm_gap (op : Int) (h0 : 5 ≤ op) (h1 : op ≤ 11) : knd op = 0 := by
  have : op = 5 ∨ op = 6 ∨ op = 7 ∨ op = 8 ∨ op = 9 ∨ op = 10 ∨ op = 11 := by omega
  rcases this with rfl | rfl | rfl | rfl | rfl | rfl | rfl <;> decide +kernel
theorem kd_three (op : Int) : Opx.kd op = 3 ↔ 5 ≤ op ∧ op ≤ 15 := by
  obtain ⟨k, hk⟩ : ∃ k, Opx.kd op = k := ⟨_, rfl⟩
  rw [hk]
  unfold Opx.kd at hk
  repeat' split at hk
  all_goals omega
theorem bh_eq (op : Int) (h : knd op ≠ 0) : bh op (Opx.kd op) = if knd op = 2 then 1 else if knd op = 7 ∨ knd op = 8 then 4 else if knd op = 9 then 6 else if op = 65 ∨ op = 66 then 7 else if op = 14 then 5 else if op = 17 then 3 else if knd op = 4 ∨ knd op = 6 ∨ op = 12 ∨ op = 13 then 2 else 0 := by
  obtain ⟨d2, d4, d6, d7, d8, d9, d10⟩ := kd_iff op
  have d3 := kd_three op
  have hg : ¬ (5 ≤ op ∧ op ≤ 11) := fun hh => h (nm_gap op hh.1 hh.2)
  rw [knd_kd h]
  generalize Opx.kd op = k at *
  unfold bh
  repeat' split
  all_goals omega
theorem gv_65 : Opx.gv 65 = 1 := by decide +kernel
theorem gv_66 : Opx.gv 66 = 2 := by decide +kernel
theorem knd_nm {op : Int} (h : knd op ≠ 0) : Opx.nm op ≠ [] := fun e => h (by unfold knd; rw [e]; rfl)
/-- two boxes, behind a row's growth. -/
theorem keep_two {w1 W2 : World} {X : Nat} {c9 c7 : Array Value} {t : TypeId} {o : Obj} {v v1 : Value} (hk : Kp ((w1.alloc (.cells c7 t)).alloc o) v W2 v1) (hv : v.ownBlock ≠ some X) (hv' : v.ownBlock ≠ some w1.heap.size) (h9 : ∀ i, w1.cell? ⟨X, i, none⟩ = c9[i]?) (hX : X < w1.heap.size) :
    (∀ i, W2.cell? ⟨X, i, none⟩ = c9[i]?) ∧ (∀ i, W2.cell? ⟨w1.heap.size, i, none⟩ = c7[i]?) ∧ X < W2.heap.size ∧ w1.heap.size < W2.heap.size ∧ v1.ownBlock ≠ some X ∧ v1.ownBlock ≠ some w1.heap.size := by
  have hs := hk.size
  simp at hs
  refine ⟨fun i => ?_, fun i => ?_, by omega, by omega, hk.own (by simp; omega) hv, hk.own (by simp; omega) hv'⟩
  · rw [hk.cell (by simp; omega) hv, World.cell?_alloc_lt _ _ _ (by simp; omega), World.cell?_alloc_lt _ _ _ hX, h9]
  · rw [hk.cell (by simp; omega) hv', World.cell?_alloc_lt _ _ _ (by simp)]
    exact World.cell?_alloc_at _ _ _ _ rfl
theorem nine_of {w w1 : World} {c9 : Array Value} {t : TypeId} (h : Below (w.alloc (.cells c9 t)).heap.size (w.alloc (.cells c9 t)) w1) : (∀ i, w1.cell? ⟨w.heap.size, i, none⟩ = c9[i]?) ∧ w.heap.size < w1.heap.size ∧ Below w.heap.size w w1 :=
  ⟨fun i => (h.cell (p := ⟨w.heap.size, i, none⟩) (by simp)).trans (World.cell?_alloc_at _ _ _ _ rfl), by have := h.size; simp at this; omega, bel_alloc h⟩
end Go.Proofs.YtbhniddgkdldlaaGreatDoor

/- Contract of layer 6's writer: expr.putIns, case by case. -/
namespace Go.Proofs.YtbhniddgkdldlaaGreatDoor
open Go.RowKit Trx

set_option maxHeartbeats 8000000 in
set_option maxRecDepth 100000 in
theorem putIns_0 (n : Nd) (p : Pl) (v : Value) (bs : List UInt8) (w0 w : World) (hN : Nam w0) (hk : knd n.op ≠ 0) (hq : bh n.op (Opx.kd n.op) = 0) (hl : bs.length + 1 ≤ 70000000) (ho : OwB w0 w v bs) :
    Calls Tryz.prog 33 #[v, ndV n p] w (Wrote w0 w v (bs ++ [b8 n.op])) := by
  have hop := knd_in hk
  have hb8 := b8_nat hk
  have hop0 := hop.1
  have hop1 := hop.2
  have HO := Lib.hid ho
  have hnew : v.ownBlock ≠ some w.heap.size := ho.new (Nat.le_refl _)
  have HNew := Lib.hid hnew
  have HL : Hid (∀ o, Calls Tryz.prog 50 #[.int .i64 n.op] (w.alloc o) fun e w' => ∃ At mt ct nmv yv sv, e = .returned (.tuple #[.agg #[.int .i64 n.op, .string nmv, .int .i64 (Opx.kd n.op), .slice At mt ct, .int .i64 (Opx.gv n.op), .int .i64 yv, .bool sv], .nilIface]) ∧ Below (w.alloc o).heap.size (w.alloc o) w') := Lib.hid fun o => by
    have hb : Below w0.heap.size w0 (w.alloc o) := ho.below.trans (((Below.refl _ _).alloc (Nat.le_refl _) o).mono ho.below.size)
    refine (Look_op n.op _ (hN.below hb) (knd_nm hk) (knd_flt hk)).mono ?_
    rintro e w' ⟨A, c, rfl, ho'⟩
    exact ⟨_, _, _, _, _, _, rfl, ho'.below⟩
  have HBh := Lib.hid (fun (w : World) (nmv : ByteArray) (tv : Value) (g y : Int) (sv : Bool) => behind_any n.op (Opx.kd n.op) g y nmv tv sv w)
  rw [hq] at HBh
  have HQ := Lib.hid hq
  have HK := Lib.hid hk
  clear ho hnew hN hop hq hk
  unfold Wrote
  obtain ⟨x, hx⟩ : ∃ x, x = b8 n.op := ⟨_, rfl⟩
  rw [← hx] at hb8 ⊢
  clear hx
  go_enter Tryz.func33, Tryz.ntmps33
  go_wp2_with (first
    | (go_at_call 50; (with_reducible refine (HL.out _).mono ?_); rintro e w1 ⟨At, mt, ct, nmv, yv, sv, rfl, hb1⟩; obtain ⟨f9, hX1, hbw1⟩ := nine_of hb1; have b0 : w1.cell? ⟨w.heap.size, 0, none⟩ = some (.int .i64 n.op) := f9 0; have b1 : w1.cell? ⟨w.heap.size, 1, none⟩ = some (.int .i64 n.a) := f9 1; have b2 : w1.cell? ⟨w.heap.size, 2, none⟩ = some (.int .i64 n.b) := f9 2; have b3 : w1.cell? ⟨w.heap.size, 3, none⟩ = some (.int .u64 n.v) := f9 3; have b4 : w1.cell? ⟨w.heap.size, 4, none⟩ = some (.int .i64 n.t) := f9 4; have b5 : w1.cell? ⟨w.heap.size, 5, none⟩ = some (.slice p.AL n.L.length p.cL) := f9 5; have b6 : w1.cell? ⟨w.heap.size, 6, none⟩ = some (.slice p.Ab (len n.body) p.cb) := f9 6; have b7 : w1.cell? ⟨w.heap.size, 7, none⟩ = some (.slice p.Ae (len n.els) p.ce) := f9 7; have b8 : w1.cell? ⟨w.heap.size, 8, none⟩ = some (.bool n.he) := f9 8; have HF9 := Lib.hid f9; have HBw1 := Lib.hid hbw1; have hN1 := Lib.hid ((HO.out.later hbw1).new (Nat.le_refl _)); clear hb1 f9 hbw1)
    | (at_builtin; refine wpl_bytes rfl (.tmp 13) (.tmp 17) rfl [x] rfl ((HO.out.later HBw1.out).later (((Below.refl _ _).alloc (Nat.le_refl _) _).alloc (by simp) _)) rfl (Sl.newbyte _ _ _ hb8 _ _ (by simp)) rfl (by omega) ?_; intro v1 W2 ho2 hk2; obtain ⟨h9, h7, hXs, hYs, hvX, hvY⟩ := keep_two hk2 HNew.out hN1.out HF9.out hX1; have y0 : W2.cell? ⟨w1.heap.size, 0, none⟩ = some (.int .i64 n.op) := h7 0; have y1 : W2.cell? ⟨w1.heap.size, 1, none⟩ = some (.string nmv) := h7 1; have y2 : W2.cell? ⟨w1.heap.size, 2, none⟩ = some (.int .i64 (Opx.kd n.op)) := h7 2; have y3 : W2.cell? ⟨w1.heap.size, 3, none⟩ = some (.slice At mt ct) := h7 3; have y4 : W2.cell? ⟨w1.heap.size, 4, none⟩ = some (.int .i64 (Opx.gv n.op)) := h7 4; have y5 : W2.cell? ⟨w1.heap.size, 5, none⟩ = some (.int .i64 yv) := h7 5; have y6 : W2.cell? ⟨w1.heap.size, 6, none⟩ = some (.bool sv) := h7 6; have HH9 := Lib.hid h9; have HO2 := Lib.hid ho2; have HvX := Lib.hid hvX; have HvY := Lib.hid hvY; have HK2 := Lib.hid ((((Kp.of_below (v := v) HBw1.out).alloc _).alloc _).trans hk2); clear ho2 hk2 h9 h7 hvX hvY b0 b1 b2 b3 b4 b5 b6 b7 b8)
    | (go_at_call 54; (with_reducible refine (HBh.out _ _ _ _ _ _).mono ?_); rintro e w3 ⟨rfl, hb3⟩; have g9 := (fun i => (hb3.cell (p := ⟨w.heap.size, i, none⟩) hXs).trans (HH9.out i)); have m0 : w3.cell? ⟨w.heap.size, 0, none⟩ = some (.int .i64 n.op) := g9 0; have m1 : w3.cell? ⟨w.heap.size, 1, none⟩ = some (.int .i64 n.a) := g9 1; have m2 : w3.cell? ⟨w.heap.size, 2, none⟩ = some (.int .i64 n.b) := g9 2; have m3 : w3.cell? ⟨w.heap.size, 3, none⟩ = some (.int .u64 n.v) := g9 3; have m4 : w3.cell? ⟨w.heap.size, 4, none⟩ = some (.int .i64 n.t) := g9 4; have m5 : w3.cell? ⟨w.heap.size, 5, none⟩ = some (.slice p.AL n.L.length p.cL) := g9 5; have m6 : w3.cell? ⟨w.heap.size, 6, none⟩ = some (.slice p.Ab (len n.body) p.cb) := g9 6; have m7 : w3.cell? ⟨w.heap.size, 7, none⟩ = some (.slice p.Ae (len n.els) p.ce) := g9 7; have m8 : w3.cell? ⟨w.heap.size, 8, none⟩ = some (.bool n.he) := g9 8; have z4 : w3.cell? ⟨w1.heap.size, 4, none⟩ = some (.int .i64 (Opx.gv n.op)) := (hb3.cell (p := ⟨w1.heap.size, 4, none⟩) hYs).trans y4; have HO3 := Lib.hid (HO2.out.later hb3); have HK3 := Lib.hid (HK2.out.trans (Kp.of_below hb3)); have hX3 := Nat.lt_of_lt_of_le hXs hb3.size; have hY3 := Nat.lt_of_lt_of_le hYs hb3.size; clear hb3 g9 y0 y1 y2 y3 y4 y5 y6))
  go_ret
  refine ⟨_, rfl, ?_, HK3.out⟩
  have := HO3.out
  simpa [List.append_assoc] using this

set_option maxHeartbeats 8000000 in
set_option maxRecDepth 100000 in
theorem putIns_6 (n : Nd) (p : Pl) (v : Value) (bs : List UInt8) (w0 w : World) (hN : Nam w0) (hk : knd n.op ≠ 0) (hq : bh n.op (Opx.kd n.op) = 6) (hl : bs.length + 2 ≤ 70000000) (ho : OwB w0 w v bs) :
    Calls Tryz.prog 33 #[v, ndV n p] w (Wrote w0 w v (bs ++ (b8 n.op :: [0]))) := by
  have hop := knd_in hk
  have hb8 := b8_nat hk
  have hop0 := hop.1
  have hop1 := hop.2
  have HO := Lib.hid ho
  have hnew : v.ownBlock ≠ some w.heap.size := ho.new (Nat.le_refl _)
  have HNew := Lib.hid hnew
  have HL : Hid (∀ o, Calls Tryz.prog 50 #[.int .i64 n.op] (w.alloc o) fun e w' => ∃ At mt ct nmv yv sv, e = .returned (.tuple #[.agg #[.int .i64 n.op, .string nmv, .int .i64 (Opx.kd n.op), .slice At mt ct, .int .i64 (Opx.gv n.op), .int .i64 yv, .bool sv], .nilIface]) ∧ Below (w.alloc o).heap.size (w.alloc o) w') := Lib.hid fun o => by
    have hb : Below w0.heap.size w0 (w.alloc o) := ho.below.trans (((Below.refl _ _).alloc (Nat.le_refl _) o).mono ho.below.size)
    refine (Look_op n.op _ (hN.below hb) (knd_nm hk) (knd_flt hk)).mono ?_
    rintro e w' ⟨A, c, rfl, ho'⟩
    exact ⟨_, _, _, _, _, _, rfl, ho'.below⟩
  have HBh := Lib.hid (fun (w : World) (nmv : ByteArray) (tv : Value) (g y : Int) (sv : Bool) => behind_any n.op (Opx.kd n.op) g y nmv tv sv w)
  rw [hq] at HBh
  have HQ := Lib.hid hq
  have HK := Lib.hid hk
  clear ho hnew hN hop hq hk
  unfold Wrote
  obtain ⟨x, hx⟩ : ∃ x, x = b8 n.op := ⟨_, rfl⟩
  rw [← hx] at hb8 ⊢
  clear hx
  go_enter Tryz.func33, Tryz.ntmps33
  go_wp2_with (first
    | (go_at_call 50; (with_reducible refine (HL.out _).mono ?_); rintro e w1 ⟨At, mt, ct, nmv, yv, sv, rfl, hb1⟩; obtain ⟨f9, hX1, hbw1⟩ := nine_of hb1; have b0 : w1.cell? ⟨w.heap.size, 0, none⟩ = some (.int .i64 n.op) := f9 0; have b1 : w1.cell? ⟨w.heap.size, 1, none⟩ = some (.int .i64 n.a) := f9 1; have b2 : w1.cell? ⟨w.heap.size, 2, none⟩ = some (.int .i64 n.b) := f9 2; have b3 : w1.cell? ⟨w.heap.size, 3, none⟩ = some (.int .u64 n.v) := f9 3; have b4 : w1.cell? ⟨w.heap.size, 4, none⟩ = some (.int .i64 n.t) := f9 4; have b5 : w1.cell? ⟨w.heap.size, 5, none⟩ = some (.slice p.AL n.L.length p.cL) := f9 5; have b6 : w1.cell? ⟨w.heap.size, 6, none⟩ = some (.slice p.Ab (len n.body) p.cb) := f9 6; have b7 : w1.cell? ⟨w.heap.size, 7, none⟩ = some (.slice p.Ae (len n.els) p.ce) := f9 7; have b8 : w1.cell? ⟨w.heap.size, 8, none⟩ = some (.bool n.he) := f9 8; have HF9 := Lib.hid f9; have HBw1 := Lib.hid hbw1; have hN1 := Lib.hid ((HO.out.later hbw1).new (Nat.le_refl _)); clear hb1 f9 hbw1)
    | (at_builtin; refine wpl_bytes rfl (.tmp 13) (.tmp 17) rfl [x] rfl ((HO.out.later HBw1.out).later (((Below.refl _ _).alloc (Nat.le_refl _) _).alloc (by simp) _)) rfl (Sl.newbyte _ _ _ hb8 _ _ (by simp)) rfl (by omega) ?_; intro v1 W2 ho2 hk2; obtain ⟨h9, h7, hXs, hYs, hvX, hvY⟩ := keep_two hk2 HNew.out hN1.out HF9.out hX1; have y0 : W2.cell? ⟨w1.heap.size, 0, none⟩ = some (.int .i64 n.op) := h7 0; have y1 : W2.cell? ⟨w1.heap.size, 1, none⟩ = some (.string nmv) := h7 1; have y2 : W2.cell? ⟨w1.heap.size, 2, none⟩ = some (.int .i64 (Opx.kd n.op)) := h7 2; have y3 : W2.cell? ⟨w1.heap.size, 3, none⟩ = some (.slice At mt ct) := h7 3; have y4 : W2.cell? ⟨w1.heap.size, 4, none⟩ = some (.int .i64 (Opx.gv n.op)) := h7 4; have y5 : W2.cell? ⟨w1.heap.size, 5, none⟩ = some (.int .i64 yv) := h7 5; have y6 : W2.cell? ⟨w1.heap.size, 6, none⟩ = some (.bool sv) := h7 6; have HH9 := Lib.hid h9; have HO2 := Lib.hid ho2; have HvX := Lib.hid hvX; have HvY := Lib.hid hvY; have HK2 := Lib.hid ((((Kp.of_below (v := v) HBw1.out).alloc _).alloc _).trans hk2); clear ho2 hk2 h9 h7 hvX hvY b0 b1 b2 b3 b4 b5 b6 b7 b8)
    | (go_at_call 54; (with_reducible refine (HBh.out _ _ _ _ _ _).mono ?_); rintro e w3 ⟨rfl, hb3⟩; have g9 := (fun i => (hb3.cell (p := ⟨w.heap.size, i, none⟩) hXs).trans (HH9.out i)); have m0 : w3.cell? ⟨w.heap.size, 0, none⟩ = some (.int .i64 n.op) := g9 0; have m1 : w3.cell? ⟨w.heap.size, 1, none⟩ = some (.int .i64 n.a) := g9 1; have m2 : w3.cell? ⟨w.heap.size, 2, none⟩ = some (.int .i64 n.b) := g9 2; have m3 : w3.cell? ⟨w.heap.size, 3, none⟩ = some (.int .u64 n.v) := g9 3; have m4 : w3.cell? ⟨w.heap.size, 4, none⟩ = some (.int .i64 n.t) := g9 4; have m5 : w3.cell? ⟨w.heap.size, 5, none⟩ = some (.slice p.AL n.L.length p.cL) := g9 5; have m6 : w3.cell? ⟨w.heap.size, 6, none⟩ = some (.slice p.Ab (len n.body) p.cb) := g9 6; have m7 : w3.cell? ⟨w.heap.size, 7, none⟩ = some (.slice p.Ae (len n.els) p.ce) := g9 7; have m8 : w3.cell? ⟨w.heap.size, 8, none⟩ = some (.bool n.he) := g9 8; have z4 : w3.cell? ⟨w1.heap.size, 4, none⟩ = some (.int .i64 (Opx.gv n.op)) := (hb3.cell (p := ⟨w1.heap.size, 4, none⟩) hYs).trans y4; have HO3 := Lib.hid (HO2.out.later hb3); have HK3 := Lib.hid (HK2.out.trans (Kp.of_below hb3)); have hX3 := Nat.lt_of_lt_of_le hXs hb3.size; have hY3 := Nat.lt_of_lt_of_le hYs hb3.size; clear hb3 g9 y0 y1 y2 y3 y4 y5 y6)
    | (at_builtin; refine wpl_bytes rfl (.tmp 57) (.tmp 58) rfl [0] rfl (HO3.out.later ((Below.refl _ _).alloc (Nat.le_refl _) _)) rfl (Sl.newbyte _ _ _ rfl _ _ (by simp)) rfl (by simp only [List.length_append, List.length_singleton]; omega) ?_; intro v4 W4 ho4 hk4; have HO4 := Lib.hid ho4; have HK4 := Lib.hid ((HK3.out.alloc _).trans hk4); clear ho4 hk4))
  go_ret
  refine ⟨_, rfl, ?_, HK4.out⟩
  have := HO4.out
  simpa [List.append_assoc] using this

set_option maxHeartbeats 8000000 in
set_option maxRecDepth 100000 in
theorem putIns_2 (n : Nd) (p : Pl) (v : Value) (bs : List UInt8) (w0 w : World) (hN : Nam w0) (hk : knd n.op ≠ 0) (hq : bh n.op (Opx.kd n.op) = 2) (ha : 0 ≤ n.a ∧ n.a ≤ 4294967295) (hl : bs.length + 20 ≤ 70000000) (ho : OwB w0 w v bs) :
    Calls Tryz.prog 33 #[v, ndV n p] w (Wrote w0 w v (bs ++ (b8 n.op :: eN n.a))) := by
  have hop := knd_in hk
  have hb8 := b8_nat hk
  have hop0 := hop.1
  have hop1 := hop.2
  have HO := Lib.hid ho
  have hnew : v.ownBlock ≠ some w.heap.size := ho.new (Nat.le_refl _)
  have HNew := Lib.hid hnew
  have HL : Hid (∀ o, Calls Tryz.prog 50 #[.int .i64 n.op] (w.alloc o) fun e w' => ∃ At mt ct nmv yv sv, e = .returned (.tuple #[.agg #[.int .i64 n.op, .string nmv, .int .i64 (Opx.kd n.op), .slice At mt ct, .int .i64 (Opx.gv n.op), .int .i64 yv, .bool sv], .nilIface]) ∧ Below (w.alloc o).heap.size (w.alloc o) w') := Lib.hid fun o => by
    have hb : Below w0.heap.size w0 (w.alloc o) := ho.below.trans (((Below.refl _ _).alloc (Nat.le_refl _) o).mono ho.below.size)
    refine (Look_op n.op _ (hN.below hb) (knd_nm hk) (knd_flt hk)).mono ?_
    rintro e w' ⟨A, c, rfl, ho'⟩
    exact ⟨_, _, _, _, _, _, rfl, ho'.below⟩
  have HBh := Lib.hid (fun (w : World) (nmv : ByteArray) (tv : Value) (g y : Int) (sv : Bool) => behind_any n.op (Opx.kd n.op) g y nmv tv sv w)
  rw [hq] at HBh
  have HQ := Lib.hid hq
  have HK := Lib.hid hk
  have ha0 := ha.1
  have ha1 := ha.2
  clear ha
  clear ho hnew hN hop hq hk
  unfold Wrote
  obtain ⟨x, hx⟩ : ∃ x, x = b8 n.op := ⟨_, rfl⟩
  rw [← hx] at hb8 ⊢
  clear hx
  go_enter Tryz.func33, Tryz.ntmps33
  go_wp2_with (first
    | (go_at_call 50; (with_reducible refine (HL.out _).mono ?_); rintro e w1 ⟨At, mt, ct, nmv, yv, sv, rfl, hb1⟩; obtain ⟨f9, hX1, hbw1⟩ := nine_of hb1; have b0 : w1.cell? ⟨w.heap.size, 0, none⟩ = some (.int .i64 n.op) := f9 0; have b1 : w1.cell? ⟨w.heap.size, 1, none⟩ = some (.int .i64 n.a) := f9 1; have b2 : w1.cell? ⟨w.heap.size, 2, none⟩ = some (.int .i64 n.b) := f9 2; have b3 : w1.cell? ⟨w.heap.size, 3, none⟩ = some (.int .u64 n.v) := f9 3; have b4 : w1.cell? ⟨w.heap.size, 4, none⟩ = some (.int .i64 n.t) := f9 4; have b5 : w1.cell? ⟨w.heap.size, 5, none⟩ = some (.slice p.AL n.L.length p.cL) := f9 5; have b6 : w1.cell? ⟨w.heap.size, 6, none⟩ = some (.slice p.Ab (len n.body) p.cb) := f9 6; have b7 : w1.cell? ⟨w.heap.size, 7, none⟩ = some (.slice p.Ae (len n.els) p.ce) := f9 7; have b8 : w1.cell? ⟨w.heap.size, 8, none⟩ = some (.bool n.he) := f9 8; have HF9 := Lib.hid f9; have HBw1 := Lib.hid hbw1; have hN1 := Lib.hid ((HO.out.later hbw1).new (Nat.le_refl _)); clear hb1 f9 hbw1)
    | (at_builtin; refine wpl_bytes rfl (.tmp 13) (.tmp 17) rfl [x] rfl ((HO.out.later HBw1.out).later (((Below.refl _ _).alloc (Nat.le_refl _) _).alloc (by simp) _)) rfl (Sl.newbyte _ _ _ hb8 _ _ (by simp)) rfl (by omega) ?_; intro v1 W2 ho2 hk2; obtain ⟨h9, h7, hXs, hYs, hvX, hvY⟩ := keep_two hk2 HNew.out hN1.out HF9.out hX1; have y0 : W2.cell? ⟨w1.heap.size, 0, none⟩ = some (.int .i64 n.op) := h7 0; have y1 : W2.cell? ⟨w1.heap.size, 1, none⟩ = some (.string nmv) := h7 1; have y2 : W2.cell? ⟨w1.heap.size, 2, none⟩ = some (.int .i64 (Opx.kd n.op)) := h7 2; have y3 : W2.cell? ⟨w1.heap.size, 3, none⟩ = some (.slice At mt ct) := h7 3; have y4 : W2.cell? ⟨w1.heap.size, 4, none⟩ = some (.int .i64 (Opx.gv n.op)) := h7 4; have y5 : W2.cell? ⟨w1.heap.size, 5, none⟩ = some (.int .i64 yv) := h7 5; have y6 : W2.cell? ⟨w1.heap.size, 6, none⟩ = some (.bool sv) := h7 6; have HH9 := Lib.hid h9; have HO2 := Lib.hid ho2; have HvX := Lib.hid hvX; have HvY := Lib.hid hvY; have HK2 := Lib.hid ((((Kp.of_below (v := v) HBw1.out).alloc _).alloc _).trans hk2); clear ho2 hk2 h9 h7 hvX hvY b0 b1 b2 b3 b4 b5 b6 b7 b8)
    | (go_at_call 54; (with_reducible refine (HBh.out _ _ _ _ _ _).mono ?_); rintro e w3 ⟨rfl, hb3⟩; have g9 := (fun i => (hb3.cell (p := ⟨w.heap.size, i, none⟩) hXs).trans (HH9.out i)); have m0 : w3.cell? ⟨w.heap.size, 0, none⟩ = some (.int .i64 n.op) := g9 0; have m1 : w3.cell? ⟨w.heap.size, 1, none⟩ = some (.int .i64 n.a) := g9 1; have m2 : w3.cell? ⟨w.heap.size, 2, none⟩ = some (.int .i64 n.b) := g9 2; have m3 : w3.cell? ⟨w.heap.size, 3, none⟩ = some (.int .u64 n.v) := g9 3; have m4 : w3.cell? ⟨w.heap.size, 4, none⟩ = some (.int .i64 n.t) := g9 4; have m5 : w3.cell? ⟨w.heap.size, 5, none⟩ = some (.slice p.AL n.L.length p.cL) := g9 5; have m6 : w3.cell? ⟨w.heap.size, 6, none⟩ = some (.slice p.Ab (len n.body) p.cb) := g9 6; have m7 : w3.cell? ⟨w.heap.size, 7, none⟩ = some (.slice p.Ae (len n.els) p.ce) := g9 7; have m8 : w3.cell? ⟨w.heap.size, 8, none⟩ = some (.bool n.he) := g9 8; have z4 : w3.cell? ⟨w1.heap.size, 4, none⟩ = some (.int .i64 (Opx.gv n.op)) := (hb3.cell (p := ⟨w1.heap.size, 4, none⟩) hYs).trans y4; have HO3 := Lib.hid (HO2.out.later hb3); have HK3 := Lib.hid (HK2.out.trans (Kp.of_below hb3)); have hX3 := Nat.lt_of_lt_of_le hXs hb3.size; have hY3 := Nat.lt_of_lt_of_le hYs hb3.size; clear hb3 g9 y0 y1 y2 y3 y4 y5 y6)
    | (go_at_call 56; (with_reducible refine (putNumber_any n.a _ _ w0 _ (by omega) (by omega) HO3.out (by simp only [List.length_append, List.length_singleton]; omega)).mono ?_); rintro e W4 ⟨v4, rfl, ho4, hk4⟩; have HO4 := Lib.hid ho4; have HK4 := Lib.hid (HK3.out.trans hk4); clear ho4 hk4))
  go_ret
  refine ⟨_, rfl, ?_, HK4.out⟩
  have := HO4.out
  simpa [List.append_assoc] using this

set_option maxHeartbeats 8000000 in
set_option maxRecDepth 100000 in
theorem putIns_3 (n : Nd) (p : Pl) (v : Value) (bs : List UInt8) (w0 w : World) (hN : Nam w0) (hk : knd n.op ≠ 0) (hq : bh n.op (Opx.kd n.op) = 3) (ha : 0 ≤ n.a ∧ n.a ≤ 4294967295) (hl : bs.length + 20 ≤ 70000000) (ho : OwB w0 w v bs) :
    Calls Tryz.prog 33 #[v, ndV n p] w (Wrote w0 w v (bs ++ (b8 n.op :: (eN n.a ++ [0])))) := by
  have hop := knd_in hk
  have hb8 := b8_nat hk
  have hop0 := hop.1
  have hop1 := hop.2
  have HO := Lib.hid ho
  have hnew : v.ownBlock ≠ some w.heap.size := ho.new (Nat.le_refl _)
  have HNew := Lib.hid hnew
  have HL : Hid (∀ o, Calls Tryz.prog 50 #[.int .i64 n.op] (w.alloc o) fun e w' => ∃ At mt ct nmv yv sv, e = .returned (.tuple #[.agg #[.int .i64 n.op, .string nmv, .int .i64 (Opx.kd n.op), .slice At mt ct, .int .i64 (Opx.gv n.op), .int .i64 yv, .bool sv], .nilIface]) ∧ Below (w.alloc o).heap.size (w.alloc o) w') := Lib.hid fun o => by
    have hb : Below w0.heap.size w0 (w.alloc o) := ho.below.trans (((Below.refl _ _).alloc (Nat.le_refl _) o).mono ho.below.size)
    refine (Look_op n.op _ (hN.below hb) (knd_nm hk) (knd_flt hk)).mono ?_
    rintro e w' ⟨A, c, rfl, ho'⟩
    exact ⟨_, _, _, _, _, _, rfl, ho'.below⟩
  have HBh := Lib.hid (fun (w : World) (nmv : ByteArray) (tv : Value) (g y : Int) (sv : Bool) => behind_any n.op (Opx.kd n.op) g y nmv tv sv w)
  rw [hq] at HBh
  have HQ := Lib.hid hq
  have HK := Lib.hid hk
  have ha0 := ha.1
  have ha1 := ha.2
  clear ha
  have h10 := eN_len n.a
  clear ho hnew hN hop hq hk
  unfold Wrote
  obtain ⟨x, hx⟩ : ∃ x, x = b8 n.op := ⟨_, rfl⟩
  rw [← hx] at hb8 ⊢
  clear hx
  go_enter Tryz.func33, Tryz.ntmps33
  go_wp2_with (first
    | (go_at_call 50; (with_reducible refine (HL.out _).mono ?_); rintro e w1 ⟨At, mt, ct, nmv, yv, sv, rfl, hb1⟩; obtain ⟨f9, hX1, hbw1⟩ := nine_of hb1; have b0 : w1.cell? ⟨w.heap.size, 0, none⟩ = some (.int .i64 n.op) := f9 0; have b1 : w1.cell? ⟨w.heap.size, 1, none⟩ = some (.int .i64 n.a) := f9 1; have b2 : w1.cell? ⟨w.heap.size, 2, none⟩ = some (.int .i64 n.b) := f9 2; have b3 : w1.cell? ⟨w.heap.size, 3, none⟩ = some (.int .u64 n.v) := f9 3; have b4 : w1.cell? ⟨w.heap.size, 4, none⟩ = some (.int .i64 n.t) := f9 4; have b5 : w1.cell? ⟨w.heap.size, 5, none⟩ = some (.slice p.AL n.L.length p.cL) := f9 5; have b6 : w1.cell? ⟨w.heap.size, 6, none⟩ = some (.slice p.Ab (len n.body) p.cb) := f9 6; have b7 : w1.cell? ⟨w.heap.size, 7, none⟩ = some (.slice p.Ae (len n.els) p.ce) := f9 7; have b8 : w1.cell? ⟨w.heap.size, 8, none⟩ = some (.bool n.he) := f9 8; have HF9 := Lib.hid f9; have HBw1 := Lib.hid hbw1; have hN1 := Lib.hid ((HO.out.later hbw1).new (Nat.le_refl _)); clear hb1 f9 hbw1)
    | (at_builtin; refine wpl_bytes rfl (.tmp 13) (.tmp 17) rfl [x] rfl ((HO.out.later HBw1.out).later (((Below.refl _ _).alloc (Nat.le_refl _) _).alloc (by simp) _)) rfl (Sl.newbyte _ _ _ hb8 _ _ (by simp)) rfl (by omega) ?_; intro v1 W2 ho2 hk2; obtain ⟨h9, h7, hXs, hYs, hvX, hvY⟩ := keep_two hk2 HNew.out hN1.out HF9.out hX1; have y0 : W2.cell? ⟨w1.heap.size, 0, none⟩ = some (.int .i64 n.op) := h7 0; have y1 : W2.cell? ⟨w1.heap.size, 1, none⟩ = some (.string nmv) := h7 1; have y2 : W2.cell? ⟨w1.heap.size, 2, none⟩ = some (.int .i64 (Opx.kd n.op)) := h7 2; have y3 : W2.cell? ⟨w1.heap.size, 3, none⟩ = some (.slice At mt ct) := h7 3; have y4 : W2.cell? ⟨w1.heap.size, 4, none⟩ = some (.int .i64 (Opx.gv n.op)) := h7 4; have y5 : W2.cell? ⟨w1.heap.size, 5, none⟩ = some (.int .i64 yv) := h7 5; have y6 : W2.cell? ⟨w1.heap.size, 6, none⟩ = some (.bool sv) := h7 6; have HH9 := Lib.hid h9; have HO2 := Lib.hid ho2; have HvX := Lib.hid hvX; have HvY := Lib.hid hvY; have HK2 := Lib.hid ((((Kp.of_below (v := v) HBw1.out).alloc _).alloc _).trans hk2); clear ho2 hk2 h9 h7 hvX hvY b0 b1 b2 b3 b4 b5 b6 b7 b8)
    | (go_at_call 54; (with_reducible refine (HBh.out _ _ _ _ _ _).mono ?_); rintro e w3 ⟨rfl, hb3⟩; have g9 := (fun i => (hb3.cell (p := ⟨w.heap.size, i, none⟩) hXs).trans (HH9.out i)); have m0 : w3.cell? ⟨w.heap.size, 0, none⟩ = some (.int .i64 n.op) := g9 0; have m1 : w3.cell? ⟨w.heap.size, 1, none⟩ = some (.int .i64 n.a) := g9 1; have m2 : w3.cell? ⟨w.heap.size, 2, none⟩ = some (.int .i64 n.b) := g9 2; have m3 : w3.cell? ⟨w.heap.size, 3, none⟩ = some (.int .u64 n.v) := g9 3; have m4 : w3.cell? ⟨w.heap.size, 4, none⟩ = some (.int .i64 n.t) := g9 4; have m5 : w3.cell? ⟨w.heap.size, 5, none⟩ = some (.slice p.AL n.L.length p.cL) := g9 5; have m6 : w3.cell? ⟨w.heap.size, 6, none⟩ = some (.slice p.Ab (len n.body) p.cb) := g9 6; have m7 : w3.cell? ⟨w.heap.size, 7, none⟩ = some (.slice p.Ae (len n.els) p.ce) := g9 7; have m8 : w3.cell? ⟨w.heap.size, 8, none⟩ = some (.bool n.he) := g9 8; have z4 : w3.cell? ⟨w1.heap.size, 4, none⟩ = some (.int .i64 (Opx.gv n.op)) := (hb3.cell (p := ⟨w1.heap.size, 4, none⟩) hYs).trans y4; have HO3 := Lib.hid (HO2.out.later hb3); have HK3 := Lib.hid (HK2.out.trans (Kp.of_below hb3)); have hX3 := Nat.lt_of_lt_of_le hXs hb3.size; have hY3 := Nat.lt_of_lt_of_le hYs hb3.size; clear hb3 g9 y0 y1 y2 y3 y4 y5 y6)
    | (go_at_call 56; (with_reducible refine (putNumber_any n.a _ _ w0 _ (by omega) (by omega) HO3.out (by simp only [List.length_append, List.length_singleton]; omega)).mono ?_); rintro e W4 ⟨v4, rfl, ho4, hk4⟩; have HO4 := Lib.hid ho4; have HK4 := Lib.hid (HK3.out.trans hk4); clear ho4 hk4)
    | (at_builtin; refine wpl_bytes rfl (.tmp 37) (.tmp 38) rfl [0] rfl (HO4.out.later ((Below.refl _ _).alloc (Nat.le_refl _) _)) rfl (Sl.newbyte _ _ _ rfl _ _ (by simp)) rfl (by simp only [List.length_append, List.length_singleton]; omega) ?_; intro v5 W5 ho5 hk5; have HO5 := Lib.hid ho5; have HK5 := Lib.hid ((HK4.out.alloc _).trans hk5); clear ho5 hk5))
  go_ret
  refine ⟨_, rfl, ?_, HK5.out⟩
  have := HO5.out
  simpa [List.append_assoc] using this

set_option maxHeartbeats 8000000 in
set_option maxRecDepth 100000 in
theorem putIns_5 (n : Nd) (p : Pl) (v : Value) (bs : List UInt8) (w0 w : World) (hN : Nam w0) (hk : knd n.op ≠ 0) (hq : bh n.op (Opx.kd n.op) = 5) (hne : n.L ≠ []) (hn : n.L.all num32 = true) (hL : Sl w0 w0.heap.size p.AL (n64s n.L)) (hl : bs.length + 10 * n.L.length + 20 ≤ 70000000) (ho : OwB w0 w v bs) :
    Calls Tryz.prog 33 #[v, ndV n p] w (Wrote w0 w v (bs ++ (b8 n.op :: (eN ((n.L.length : Int) - 1) ++ n.L.flatMap eN)))) := by
  have hop := knd_in hk
  have hb8 := b8_nat hk
  have hop0 := hop.1
  have hop1 := hop.2
  have HO := Lib.hid ho
  have hnew : v.ownBlock ≠ some w.heap.size := ho.new (Nat.le_refl _)
  have HNew := Lib.hid hnew
  have HL : Hid (∀ o, Calls Tryz.prog 50 #[.int .i64 n.op] (w.alloc o) fun e w' => ∃ At mt ct nmv yv sv, e = .returned (.tuple #[.agg #[.int .i64 n.op, .string nmv, .int .i64 (Opx.kd n.op), .slice At mt ct, .int .i64 (Opx.gv n.op), .int .i64 yv, .bool sv], .nilIface]) ∧ Below (w.alloc o).heap.size (w.alloc o) w') := Lib.hid fun o => by
    have hb : Below w0.heap.size w0 (w.alloc o) := ho.below.trans (((Below.refl _ _).alloc (Nat.le_refl _) o).mono ho.below.size)
    refine (Look_op n.op _ (hN.below hb) (knd_nm hk) (knd_flt hk)).mono ?_
    rintro e w' ⟨A, c, rfl, ho'⟩
    exact ⟨_, _, _, _, _, _, rfl, ho'.below⟩
  have HBh := Lib.hid (fun (w : World) (nmv : ByteArray) (tv : Value) (g y : Int) (sv : Bool) => behind_any n.op (Opx.kd n.op) g y nmv tv sv w)
  rw [hq] at HBh
  have HQ := Lib.hid hq
  have HK := Lib.hid hk
  have HLb := Lib.hid (fun v bs w ho hl => putLabels_any n.L p.AL p.cL v bs w0 w hne hn hL ho hl)
  clear hne hn hL
  clear ho hnew hN hop hq hk
  unfold Wrote
  obtain ⟨x, hx⟩ : ∃ x, x = b8 n.op := ⟨_, rfl⟩
  rw [← hx] at hb8 ⊢
  clear hx
  go_enter Tryz.func33, Tryz.ntmps33
  go_wp2_with (first
    | (go_at_call 50; (with_reducible refine (HL.out _).mono ?_); rintro e w1 ⟨At, mt, ct, nmv, yv, sv, rfl, hb1⟩; obtain ⟨f9, hX1, hbw1⟩ := nine_of hb1; have b0 : w1.cell? ⟨w.heap.size, 0, none⟩ = some (.int .i64 n.op) := f9 0; have b1 : w1.cell? ⟨w.heap.size, 1, none⟩ = some (.int .i64 n.a) := f9 1; have b2 : w1.cell? ⟨w.heap.size, 2, none⟩ = some (.int .i64 n.b) := f9 2; have b3 : w1.cell? ⟨w.heap.size, 3, none⟩ = some (.int .u64 n.v) := f9 3; have b4 : w1.cell? ⟨w.heap.size, 4, none⟩ = some (.int .i64 n.t) := f9 4; have b5 : w1.cell? ⟨w.heap.size, 5, none⟩ = some (.slice p.AL n.L.length p.cL) := f9 5; have b6 : w1.cell? ⟨w.heap.size, 6, none⟩ = some (.slice p.Ab (len n.body) p.cb) := f9 6; have b7 : w1.cell? ⟨w.heap.size, 7, none⟩ = some (.slice p.Ae (len n.els) p.ce) := f9 7; have b8 : w1.cell? ⟨w.heap.size, 8, none⟩ = some (.bool n.he) := f9 8; have HF9 := Lib.hid f9; have HBw1 := Lib.hid hbw1; have hN1 := Lib.hid ((HO.out.later hbw1).new (Nat.le_refl _)); clear hb1 f9 hbw1)
    | (at_builtin; refine wpl_bytes rfl (.tmp 13) (.tmp 17) rfl [x] rfl ((HO.out.later HBw1.out).later (((Below.refl _ _).alloc (Nat.le_refl _) _).alloc (by simp) _)) rfl (Sl.newbyte _ _ _ hb8 _ _ (by simp)) rfl (by omega) ?_; intro v1 W2 ho2 hk2; obtain ⟨h9, h7, hXs, hYs, hvX, hvY⟩ := keep_two hk2 HNew.out hN1.out HF9.out hX1; have y0 : W2.cell? ⟨w1.heap.size, 0, none⟩ = some (.int .i64 n.op) := h7 0; have y1 : W2.cell? ⟨w1.heap.size, 1, none⟩ = some (.string nmv) := h7 1; have y2 : W2.cell? ⟨w1.heap.size, 2, none⟩ = some (.int .i64 (Opx.kd n.op)) := h7 2; have y3 : W2.cell? ⟨w1.heap.size, 3, none⟩ = some (.slice At mt ct) := h7 3; have y4 : W2.cell? ⟨w1.heap.size, 4, none⟩ = some (.int .i64 (Opx.gv n.op)) := h7 4; have y5 : W2.cell? ⟨w1.heap.size, 5, none⟩ = some (.int .i64 yv) := h7 5; have y6 : W2.cell? ⟨w1.heap.size, 6, none⟩ = some (.bool sv) := h7 6; have HH9 := Lib.hid h9; have HO2 := Lib.hid ho2; have HvX := Lib.hid hvX; have HvY := Lib.hid hvY; have HK2 := Lib.hid ((((Kp.of_below (v := v) HBw1.out).alloc _).alloc _).trans hk2); clear ho2 hk2 h9 h7 hvX hvY b0 b1 b2 b3 b4 b5 b6 b7 b8)
    | (go_at_call 54; (with_reducible refine (HBh.out _ _ _ _ _ _).mono ?_); rintro e w3 ⟨rfl, hb3⟩; have g9 := (fun i => (hb3.cell (p := ⟨w.heap.size, i, none⟩) hXs).trans (HH9.out i)); have m0 : w3.cell? ⟨w.heap.size, 0, none⟩ = some (.int .i64 n.op) := g9 0; have m1 : w3.cell? ⟨w.heap.size, 1, none⟩ = some (.int .i64 n.a) := g9 1; have m2 : w3.cell? ⟨w.heap.size, 2, none⟩ = some (.int .i64 n.b) := g9 2; have m3 : w3.cell? ⟨w.heap.size, 3, none⟩ = some (.int .u64 n.v) := g9 3; have m4 : w3.cell? ⟨w.heap.size, 4, none⟩ = some (.int .i64 n.t) := g9 4; have m5 : w3.cell? ⟨w.heap.size, 5, none⟩ = some (.slice p.AL n.L.length p.cL) := g9 5; have m6 : w3.cell? ⟨w.heap.size, 6, none⟩ = some (.slice p.Ab (len n.body) p.cb) := g9 6; have m7 : w3.cell? ⟨w.heap.size, 7, none⟩ = some (.slice p.Ae (len n.els) p.ce) := g9 7; have m8 : w3.cell? ⟨w.heap.size, 8, none⟩ = some (.bool n.he) := g9 8; have z4 : w3.cell? ⟨w1.heap.size, 4, none⟩ = some (.int .i64 (Opx.gv n.op)) := (hb3.cell (p := ⟨w1.heap.size, 4, none⟩) hYs).trans y4; have HO3 := Lib.hid (HO2.out.later hb3); have HK3 := Lib.hid (HK2.out.trans (Kp.of_below hb3)); have hX3 := Nat.lt_of_lt_of_le hXs hb3.size; have hY3 := Nat.lt_of_lt_of_le hYs hb3.size; clear hb3 g9 y0 y1 y2 y3 y4 y5 y6)
    | (go_at_call 57; (with_reducible refine (HLb.out _ _ _ HO3.out (by simp only [List.length_append, List.length_singleton]; omega)).mono ?_); rintro e W4 ⟨v4, rfl, ho4, hk4⟩; have HO4 := Lib.hid ho4; have HK4 := Lib.hid (HK3.out.trans hk4); clear ho4 hk4))
  go_ret
  refine ⟨_, rfl, ?_, HK4.out⟩
  have := HO4.out
  simpa [List.append_assoc] using this

set_option maxHeartbeats 8000000 in
set_option maxRecDepth 100000 in
theorem putIns_7 (n : Nd) (p : Pl) (v : Value) (bs : List UInt8) (w0 w : World) (hN : Nam w0) (hk : knd n.op ≠ 0) (hq : bh n.op (Opx.kd n.op) = 7) (z : Int) (hz0 : -9223372036854775808 ≤ z) (hz1 : z < 9223372036854775808) (hs : ∀ w, Calls Tryz.prog 59 #[.int .u64 n.v, .int .i64 (Opx.gv n.op)] w fun e w' => e = .returned (.int .i64 z) ∧ w = w') (hl : bs.length + 20 ≤ 70000000) (ho : OwB w0 w v bs) :
    Calls Tryz.prog 33 #[v, ndV n p] w (Wrote w0 w v (bs ++ (b8 n.op :: Leb.putS z))) := by
  have hop := knd_in hk
  have hb8 := b8_nat hk
  have hop0 := hop.1
  have hop1 := hop.2
  have HO := Lib.hid ho
  have hnew : v.ownBlock ≠ some w.heap.size := ho.new (Nat.le_refl _)
  have HNew := Lib.hid hnew
  have HL : Hid (∀ o, Calls Tryz.prog 50 #[.int .i64 n.op] (w.alloc o) fun e w' => ∃ At mt ct nmv yv sv, e = .returned (.tuple #[.agg #[.int .i64 n.op, .string nmv, .int .i64 (Opx.kd n.op), .slice At mt ct, .int .i64 (Opx.gv n.op), .int .i64 yv, .bool sv], .nilIface]) ∧ Below (w.alloc o).heap.size (w.alloc o) w') := Lib.hid fun o => by
    have hb : Below w0.heap.size w0 (w.alloc o) := ho.below.trans (((Below.refl _ _).alloc (Nat.le_refl _) o).mono ho.below.size)
    refine (Look_op n.op _ (hN.below hb) (knd_nm hk) (knd_flt hk)).mono ?_
    rintro e w' ⟨A, c, rfl, ho'⟩
    exact ⟨_, _, _, _, _, _, rfl, ho'.below⟩
  have HBh := Lib.hid (fun (w : World) (nmv : ByteArray) (tv : Value) (g y : Int) (sv : Bool) => behind_any n.op (Opx.kd n.op) g y nmv tv sv w)
  rw [hq] at HBh
  have HQ := Lib.hid hq
  have HK := Lib.hid hk
  have HSg := Lib.hid hs
  have HPs := Lib.hid (fun w => PutS_e z w hz0 hz1)
  have h10 := Leb.putS_len10 hz0 hz1
  clear hs
  clear ho hnew hN hop hq hk
  unfold Wrote
  obtain ⟨x, hx⟩ : ∃ x, x = b8 n.op := ⟨_, rfl⟩
  rw [← hx] at hb8 ⊢
  clear hx
  go_enter Tryz.func33, Tryz.ntmps33
  go_wp2_with (first
    | (go_at_call 50; (with_reducible refine (HL.out _).mono ?_); rintro e w1 ⟨At, mt, ct, nmv, yv, sv, rfl, hb1⟩; obtain ⟨f9, hX1, hbw1⟩ := nine_of hb1; have b0 : w1.cell? ⟨w.heap.size, 0, none⟩ = some (.int .i64 n.op) := f9 0; have b1 : w1.cell? ⟨w.heap.size, 1, none⟩ = some (.int .i64 n.a) := f9 1; have b2 : w1.cell? ⟨w.heap.size, 2, none⟩ = some (.int .i64 n.b) := f9 2; have b3 : w1.cell? ⟨w.heap.size, 3, none⟩ = some (.int .u64 n.v) := f9 3; have b4 : w1.cell? ⟨w.heap.size, 4, none⟩ = some (.int .i64 n.t) := f9 4; have b5 : w1.cell? ⟨w.heap.size, 5, none⟩ = some (.slice p.AL n.L.length p.cL) := f9 5; have b6 : w1.cell? ⟨w.heap.size, 6, none⟩ = some (.slice p.Ab (len n.body) p.cb) := f9 6; have b7 : w1.cell? ⟨w.heap.size, 7, none⟩ = some (.slice p.Ae (len n.els) p.ce) := f9 7; have b8 : w1.cell? ⟨w.heap.size, 8, none⟩ = some (.bool n.he) := f9 8; have HF9 := Lib.hid f9; have HBw1 := Lib.hid hbw1; have hN1 := Lib.hid ((HO.out.later hbw1).new (Nat.le_refl _)); clear hb1 f9 hbw1)
    | (at_builtin; refine wpl_bytes rfl (.tmp 13) (.tmp 17) rfl [x] rfl ((HO.out.later HBw1.out).later (((Below.refl _ _).alloc (Nat.le_refl _) _).alloc (by simp) _)) rfl (Sl.newbyte _ _ _ hb8 _ _ (by simp)) rfl (by omega) ?_; intro v1 W2 ho2 hk2; obtain ⟨h9, h7, hXs, hYs, hvX, hvY⟩ := keep_two hk2 HNew.out hN1.out HF9.out hX1; have y0 : W2.cell? ⟨w1.heap.size, 0, none⟩ = some (.int .i64 n.op) := h7 0; have y1 : W2.cell? ⟨w1.heap.size, 1, none⟩ = some (.string nmv) := h7 1; have y2 : W2.cell? ⟨w1.heap.size, 2, none⟩ = some (.int .i64 (Opx.kd n.op)) := h7 2; have y3 : W2.cell? ⟨w1.heap.size, 3, none⟩ = some (.slice At mt ct) := h7 3; have y4 : W2.cell? ⟨w1.heap.size, 4, none⟩ = some (.int .i64 (Opx.gv n.op)) := h7 4; have y5 : W2.cell? ⟨w1.heap.size, 5, none⟩ = some (.int .i64 yv) := h7 5; have y6 : W2.cell? ⟨w1.heap.size, 6, none⟩ = some (.bool sv) := h7 6; have HH9 := Lib.hid h9; have HO2 := Lib.hid ho2; have HvX := Lib.hid hvX; have HvY := Lib.hid hvY; have HK2 := Lib.hid ((((Kp.of_below (v := v) HBw1.out).alloc _).alloc _).trans hk2); clear ho2 hk2 h9 h7 hvX hvY b0 b1 b2 b3 b4 b5 b6 b7 b8)
    | (go_at_call 54; (with_reducible refine (HBh.out _ _ _ _ _ _).mono ?_); rintro e w3 ⟨rfl, hb3⟩; have g9 := (fun i => (hb3.cell (p := ⟨w.heap.size, i, none⟩) hXs).trans (HH9.out i)); have m0 : w3.cell? ⟨w.heap.size, 0, none⟩ = some (.int .i64 n.op) := g9 0; have m1 : w3.cell? ⟨w.heap.size, 1, none⟩ = some (.int .i64 n.a) := g9 1; have m2 : w3.cell? ⟨w.heap.size, 2, none⟩ = some (.int .i64 n.b) := g9 2; have m3 : w3.cell? ⟨w.heap.size, 3, none⟩ = some (.int .u64 n.v) := g9 3; have m4 : w3.cell? ⟨w.heap.size, 4, none⟩ = some (.int .i64 n.t) := g9 4; have m5 : w3.cell? ⟨w.heap.size, 5, none⟩ = some (.slice p.AL n.L.length p.cL) := g9 5; have m6 : w3.cell? ⟨w.heap.size, 6, none⟩ = some (.slice p.Ab (len n.body) p.cb) := g9 6; have m7 : w3.cell? ⟨w.heap.size, 7, none⟩ = some (.slice p.Ae (len n.els) p.ce) := g9 7; have m8 : w3.cell? ⟨w.heap.size, 8, none⟩ = some (.bool n.he) := g9 8; have z4 : w3.cell? ⟨w1.heap.size, 4, none⟩ = some (.int .i64 (Opx.gv n.op)) := (hb3.cell (p := ⟨w1.heap.size, 4, none⟩) hYs).trans y4; have HO3 := Lib.hid (HO2.out.later hb3); have HK3 := Lib.hid (HK2.out.trans (Kp.of_below hb3)); have hX3 := Nat.lt_of_lt_of_le hXs hb3.size; have hY3 := Nat.lt_of_lt_of_le hYs hb3.size; clear hb3 g9 y0 y1 y2 y3 y4 y5 y6)
    | (go_at_call 59; (with_reducible refine (HSg.out _).mono ?_); rintro e w4 ⟨rfl, rfl⟩)
    | (go_at_call 58; (with_reducible refine (HPs.out _).mono ?_); rintro e W4 ⟨A4, c4, rfl, hs4, hb4⟩; have HS4 := Lib.hid hs4; have HB4 := Lib.hid hb4; clear hs4 hb4)
    | (at_builtin; refine wpl_bytes rfl (.tmp 62) (.tmp 68) rfl (Leb.putS z) rfl (HO3.out.later HB4.out) rfl HS4.out rfl (by simp only [List.length_append, List.length_singleton]; omega) ?_; intro v5 W5 ho5 hk5; have HO5 := Lib.hid ho5; have HK5 := Lib.hid ((HK3.out.trans (Kp.of_below HB4.out)).trans hk5); clear ho5 hk5))
  go_ret
  refine ⟨_, rfl, ?_, HK5.out⟩
  have := HO5.out
  simpa [List.append_assoc] using this

set_option maxHeartbeats 8000000 in
set_option maxRecDepth 100000 in
theorem putIns_1 (n : Nd) (p : Pl) (v : Value) (bs : List UInt8) (w0 w : World) (hN : Nam w0) (hk : knd n.op ≠ 0) (hq : bh n.op (Opx.kd n.op) = 1) (ht0 : 0 ≤ n.t) (ht2 : n.t ≤ 2) (hB : PutsL w0 n.body p.Ab p.cb) (hE : PutsL w0 n.els p.Ae p.ce) (e2 : (enc n.body).length ≤ 24 * wt n.body) (e3 : (enc n.els).length ≤ 24 * wt n.els) (hl : bs.length + 20 + 24 * wt n.body + 24 * wt n.els ≤ 60000000) (ho : OwB w0 w v bs) :
    Calls Tryz.prog 33 #[v, ndV n p] w (Wrote w0 w v (bs ++ (b8 n.op :: (eRes n.t :: (enc n.body ++ ((if n.he then 5 :: enc n.els else []) ++ [11])))))) := by
  have hop := knd_in hk
  have hb8 := b8_nat hk
  have hop0 := hop.1
  have hop1 := hop.2
  have HO := Lib.hid ho
  have hnew : v.ownBlock ≠ some w.heap.size := ho.new (Nat.le_refl _)
  have HNew := Lib.hid hnew
  have HL : Hid (∀ o, Calls Tryz.prog 50 #[.int .i64 n.op] (w.alloc o) fun e w' => ∃ At mt ct nmv yv sv, e = .returned (.tuple #[.agg #[.int .i64 n.op, .string nmv, .int .i64 (Opx.kd n.op), .slice At mt ct, .int .i64 (Opx.gv n.op), .int .i64 yv, .bool sv], .nilIface]) ∧ Below (w.alloc o).heap.size (w.alloc o) w') := Lib.hid fun o => by
    have hb : Below w0.heap.size w0 (w.alloc o) := ho.below.trans (((Below.refl _ _).alloc (Nat.le_refl _) o).mono ho.below.size)
    refine (Look_op n.op _ (hN.below hb) (knd_nm hk) (knd_flt hk)).mono ?_
    rintro e w' ⟨A, c, rfl, ho'⟩
    exact ⟨_, _, _, _, _, _, rfl, ho'.below⟩
  have HBh := Lib.hid (fun (w : World) (nmv : ByteArray) (tv : Value) (g y : Int) (sv : Bool) => behind_any n.op (Opx.kd n.op) g y nmv tv sv w)
  rw [hq] at HBh
  have HQ := Lib.hid hq
  have HK := Lib.hid hk
  have HPb := Lib.hid (fun v bs w ho hl => putBlock_any n p v bs w0 w ht0 ht2 hB hE ho e2 e3 hl)
  obtain ⟨tl, htl⟩ : ∃ tl : List UInt8, tl = (eRes n.t :: (enc n.body ++ ((if n.he then 5 :: enc n.els else []) ++ [11]))) := ⟨_, rfl⟩
  rw [← htl] at HPb ⊢
  clear hB hE htl
  clear ho hnew hN hop hq hk
  unfold Wrote
  obtain ⟨x, hx⟩ : ∃ x, x = b8 n.op := ⟨_, rfl⟩
  rw [← hx] at hb8 ⊢
  clear hx
  go_enter Tryz.func33, Tryz.ntmps33
  go_wp2_with (first
    | (go_at_call 50; (with_reducible refine (HL.out _).mono ?_); rintro e w1 ⟨At, mt, ct, nmv, yv, sv, rfl, hb1⟩; obtain ⟨f9, hX1, hbw1⟩ := nine_of hb1; have b0 : w1.cell? ⟨w.heap.size, 0, none⟩ = some (.int .i64 n.op) := f9 0; have b1 : w1.cell? ⟨w.heap.size, 1, none⟩ = some (.int .i64 n.a) := f9 1; have b2 : w1.cell? ⟨w.heap.size, 2, none⟩ = some (.int .i64 n.b) := f9 2; have b3 : w1.cell? ⟨w.heap.size, 3, none⟩ = some (.int .u64 n.v) := f9 3; have b4 : w1.cell? ⟨w.heap.size, 4, none⟩ = some (.int .i64 n.t) := f9 4; have b5 : w1.cell? ⟨w.heap.size, 5, none⟩ = some (.slice p.AL n.L.length p.cL) := f9 5; have b6 : w1.cell? ⟨w.heap.size, 6, none⟩ = some (.slice p.Ab (len n.body) p.cb) := f9 6; have b7 : w1.cell? ⟨w.heap.size, 7, none⟩ = some (.slice p.Ae (len n.els) p.ce) := f9 7; have b8 : w1.cell? ⟨w.heap.size, 8, none⟩ = some (.bool n.he) := f9 8; have HF9 := Lib.hid f9; have HBw1 := Lib.hid hbw1; have hN1 := Lib.hid ((HO.out.later hbw1).new (Nat.le_refl _)); clear hb1 f9 hbw1)
    | (at_builtin; refine wpl_bytes rfl (.tmp 13) (.tmp 17) rfl [x] rfl ((HO.out.later HBw1.out).later (((Below.refl _ _).alloc (Nat.le_refl _) _).alloc (by simp) _)) rfl (Sl.newbyte _ _ _ hb8 _ _ (by simp)) rfl (by omega) ?_; intro v1 W2 ho2 hk2; obtain ⟨h9, h7, hXs, hYs, hvX, hvY⟩ := keep_two hk2 HNew.out hN1.out HF9.out hX1; have y0 : W2.cell? ⟨w1.heap.size, 0, none⟩ = some (.int .i64 n.op) := h7 0; have y1 : W2.cell? ⟨w1.heap.size, 1, none⟩ = some (.string nmv) := h7 1; have y2 : W2.cell? ⟨w1.heap.size, 2, none⟩ = some (.int .i64 (Opx.kd n.op)) := h7 2; have y3 : W2.cell? ⟨w1.heap.size, 3, none⟩ = some (.slice At mt ct) := h7 3; have y4 : W2.cell? ⟨w1.heap.size, 4, none⟩ = some (.int .i64 (Opx.gv n.op)) := h7 4; have y5 : W2.cell? ⟨w1.heap.size, 5, none⟩ = some (.int .i64 yv) := h7 5; have y6 : W2.cell? ⟨w1.heap.size, 6, none⟩ = some (.bool sv) := h7 6; have HH9 := Lib.hid h9; have HO2 := Lib.hid ho2; have HvX := Lib.hid hvX; have HvY := Lib.hid hvY; have HK2 := Lib.hid ((((Kp.of_below (v := v) HBw1.out).alloc _).alloc _).trans hk2); clear ho2 hk2 h9 h7 hvX hvY b0 b1 b2 b3 b4 b5 b6 b7 b8)
    | (go_at_call 54; (with_reducible refine (HBh.out _ _ _ _ _ _).mono ?_); rintro e w3 ⟨rfl, hb3⟩; have g9 := (fun i => (hb3.cell (p := ⟨w.heap.size, i, none⟩) hXs).trans (HH9.out i)); have m0 : w3.cell? ⟨w.heap.size, 0, none⟩ = some (.int .i64 n.op) := g9 0; have m1 : w3.cell? ⟨w.heap.size, 1, none⟩ = some (.int .i64 n.a) := g9 1; have m2 : w3.cell? ⟨w.heap.size, 2, none⟩ = some (.int .i64 n.b) := g9 2; have m3 : w3.cell? ⟨w.heap.size, 3, none⟩ = some (.int .u64 n.v) := g9 3; have m4 : w3.cell? ⟨w.heap.size, 4, none⟩ = some (.int .i64 n.t) := g9 4; have m5 : w3.cell? ⟨w.heap.size, 5, none⟩ = some (.slice p.AL n.L.length p.cL) := g9 5; have m6 : w3.cell? ⟨w.heap.size, 6, none⟩ = some (.slice p.Ab (len n.body) p.cb) := g9 6; have m7 : w3.cell? ⟨w.heap.size, 7, none⟩ = some (.slice p.Ae (len n.els) p.ce) := g9 7; have m8 : w3.cell? ⟨w.heap.size, 8, none⟩ = some (.bool n.he) := g9 8; have z4 : w3.cell? ⟨w1.heap.size, 4, none⟩ = some (.int .i64 (Opx.gv n.op)) := (hb3.cell (p := ⟨w1.heap.size, 4, none⟩) hYs).trans y4; have HO3 := Lib.hid (HO2.out.later hb3); have HK3 := Lib.hid (HK2.out.trans (Kp.of_below hb3)); have hX3 := Nat.lt_of_lt_of_le hXs hb3.size; have hY3 := Nat.lt_of_lt_of_le hYs hb3.size; clear hb3 g9 y0 y1 y2 y3 y4 y5 y6)
    | (go_at_call 55; (with_reducible refine (HPb.out _ _ _ HO3.out (by simp only [List.length_append, List.length_singleton]; omega)).mono ?_); rintro e W4 ⟨v4, rfl, ho4, hk4⟩; have HO4 := Lib.hid ho4; have HK4 := Lib.hid (HK3.out.trans hk4); clear ho4 hk4))
  go_ret
  refine ⟨_, rfl, ?_, HK4.out⟩
  have := HO4.out
  simpa [List.append_assoc] using this

set_option maxHeartbeats 8000000 in
set_option maxRecDepth 100000 in
theorem putIns_4 (n : Nd) (p : Pl) (v : Value) (bs : List UInt8) (w0 w : World) (hN : Nam w0) (hk : knd n.op ≠ 0) (hq : bh n.op (Opx.kd n.op) = 4) (ha : 0 ≤ n.a ∧ n.a ≤ 4294967295) (hb : 0 ≤ n.b ∧ n.b ≤ 4294967295) (hl : bs.length + 40 ≤ 70000000) (ho : OwB w0 w v bs) :
    Calls Tryz.prog 33 #[v, ndV n p] w (Wrote w0 w v (bs ++ (b8 n.op :: (eN n.a ++ eN n.b)))) := by
  have hop := knd_in hk
  have hb8 := b8_nat hk
  have hop0 := hop.1
  have hop1 := hop.2
  have HO := Lib.hid ho
  have hnew : v.ownBlock ≠ some w.heap.size := ho.new (Nat.le_refl _)
  have HNew := Lib.hid hnew
  have HL : Hid (∀ o, Calls Tryz.prog 50 #[.int .i64 n.op] (w.alloc o) fun e w' => ∃ At mt ct nmv yv sv, e = .returned (.tuple #[.agg #[.int .i64 n.op, .string nmv, .int .i64 (Opx.kd n.op), .slice At mt ct, .int .i64 (Opx.gv n.op), .int .i64 yv, .bool sv], .nilIface]) ∧ Below (w.alloc o).heap.size (w.alloc o) w') := Lib.hid fun o => by
    have hb : Below w0.heap.size w0 (w.alloc o) := ho.below.trans (((Below.refl _ _).alloc (Nat.le_refl _) o).mono ho.below.size)
    refine (Look_op n.op _ (hN.below hb) (knd_nm hk) (knd_flt hk)).mono ?_
    rintro e w' ⟨A, c, rfl, ho'⟩
    exact ⟨_, _, _, _, _, _, rfl, ho'.below⟩
  have HBh := Lib.hid (fun (w : World) (nmv : ByteArray) (tv : Value) (g y : Int) (sv : Bool) => behind_any n.op (Opx.kd n.op) g y nmv tv sv w)
  rw [hq] at HBh
  have HQ := Lib.hid hq
  have HK := Lib.hid hk
  have ha0 := ha.1
  have ha1 := ha.2
  clear ha
  have hb0 := hb.1
  have hb1 := hb.2
  have h10 := eN_len n.a
  have h11 := eN_len n.b
  clear hb
  clear ho hnew hN hop hq hk
  unfold Wrote
  obtain ⟨x, hx⟩ : ∃ x, x = b8 n.op := ⟨_, rfl⟩
  rw [← hx] at hb8 ⊢
  clear hx
  go_enter Tryz.func33, Tryz.ntmps33
  go_wp2_with (first
    | (go_at_call 50; (with_reducible refine (HL.out _).mono ?_); rintro e w1 ⟨At, mt, ct, nmv, yv, sv, rfl, hb1⟩; obtain ⟨f9, hX1, hbw1⟩ := nine_of hb1; have b0 : w1.cell? ⟨w.heap.size, 0, none⟩ = some (.int .i64 n.op) := f9 0; have b1 : w1.cell? ⟨w.heap.size, 1, none⟩ = some (.int .i64 n.a) := f9 1; have b2 : w1.cell? ⟨w.heap.size, 2, none⟩ = some (.int .i64 n.b) := f9 2; have b3 : w1.cell? ⟨w.heap.size, 3, none⟩ = some (.int .u64 n.v) := f9 3; have b4 : w1.cell? ⟨w.heap.size, 4, none⟩ = some (.int .i64 n.t) := f9 4; have b5 : w1.cell? ⟨w.heap.size, 5, none⟩ = some (.slice p.AL n.L.length p.cL) := f9 5; have b6 : w1.cell? ⟨w.heap.size, 6, none⟩ = some (.slice p.Ab (len n.body) p.cb) := f9 6; have b7 : w1.cell? ⟨w.heap.size, 7, none⟩ = some (.slice p.Ae (len n.els) p.ce) := f9 7; have b8 : w1.cell? ⟨w.heap.size, 8, none⟩ = some (.bool n.he) := f9 8; have HF9 := Lib.hid f9; have HBw1 := Lib.hid hbw1; have hN1 := Lib.hid ((HO.out.later hbw1).new (Nat.le_refl _)); clear hb1 f9 hbw1)
    | (at_builtin; refine wpl_bytes rfl (.tmp 13) (.tmp 17) rfl [x] rfl ((HO.out.later HBw1.out).later (((Below.refl _ _).alloc (Nat.le_refl _) _).alloc (by simp) _)) rfl (Sl.newbyte _ _ _ hb8 _ _ (by simp)) rfl (by omega) ?_; intro v1 W2 ho2 hk2; obtain ⟨h9, h7, hXs, hYs, hvX, hvY⟩ := keep_two hk2 HNew.out hN1.out HF9.out hX1; have y0 : W2.cell? ⟨w1.heap.size, 0, none⟩ = some (.int .i64 n.op) := h7 0; have y1 : W2.cell? ⟨w1.heap.size, 1, none⟩ = some (.string nmv) := h7 1; have y2 : W2.cell? ⟨w1.heap.size, 2, none⟩ = some (.int .i64 (Opx.kd n.op)) := h7 2; have y3 : W2.cell? ⟨w1.heap.size, 3, none⟩ = some (.slice At mt ct) := h7 3; have y4 : W2.cell? ⟨w1.heap.size, 4, none⟩ = some (.int .i64 (Opx.gv n.op)) := h7 4; have y5 : W2.cell? ⟨w1.heap.size, 5, none⟩ = some (.int .i64 yv) := h7 5; have y6 : W2.cell? ⟨w1.heap.size, 6, none⟩ = some (.bool sv) := h7 6; have HH9 := Lib.hid h9; have HO2 := Lib.hid ho2; have HvX := Lib.hid hvX; have HvY := Lib.hid hvY; have HK2 := Lib.hid ((((Kp.of_below (v := v) HBw1.out).alloc _).alloc _).trans hk2); clear ho2 hk2 h9 h7 hvX hvY b0 b1 b2 b3 b4 b5 b6 b7 b8)
    | (go_at_call 54; (with_reducible refine (HBh.out _ _ _ _ _ _).mono ?_); rintro e w3 ⟨rfl, hb3⟩; have g9 := (fun i => (hb3.cell (p := ⟨w.heap.size, i, none⟩) hXs).trans (HH9.out i)); have m0 : w3.cell? ⟨w.heap.size, 0, none⟩ = some (.int .i64 n.op) := g9 0; have m1 : w3.cell? ⟨w.heap.size, 1, none⟩ = some (.int .i64 n.a) := g9 1; have m2 : w3.cell? ⟨w.heap.size, 2, none⟩ = some (.int .i64 n.b) := g9 2; have m3 : w3.cell? ⟨w.heap.size, 3, none⟩ = some (.int .u64 n.v) := g9 3; have m4 : w3.cell? ⟨w.heap.size, 4, none⟩ = some (.int .i64 n.t) := g9 4; have m5 : w3.cell? ⟨w.heap.size, 5, none⟩ = some (.slice p.AL n.L.length p.cL) := g9 5; have m6 : w3.cell? ⟨w.heap.size, 6, none⟩ = some (.slice p.Ab (len n.body) p.cb) := g9 6; have m7 : w3.cell? ⟨w.heap.size, 7, none⟩ = some (.slice p.Ae (len n.els) p.ce) := g9 7; have m8 : w3.cell? ⟨w.heap.size, 8, none⟩ = some (.bool n.he) := g9 8; have z4 : w3.cell? ⟨w1.heap.size, 4, none⟩ = some (.int .i64 (Opx.gv n.op)) := (hb3.cell (p := ⟨w1.heap.size, 4, none⟩) hYs).trans y4; have HO3 := Lib.hid (HO2.out.later hb3); have HK3 := Lib.hid (HK2.out.trans (Kp.of_below hb3)); have hX3 := Nat.lt_of_lt_of_le hXs hb3.size; have hY3 := Nat.lt_of_lt_of_le hYs hb3.size; clear hb3 g9 y0 y1 y2 y3 y4 y5 y6))
  refine wp_region_held_drew (S := fun w' => w'.cell? ⟨w.heap.size, 1, none⟩ = some (.int .i64 n.a) ∧ w'.cell? ⟨w.heap.size, 2, none⟩ = some (.int .i64 n.b)) (by kernel_rfl) ⟨m1, m2⟩ (fun hHeld => ?_)
  have HO3' := Lib.hid (HO3.out.drewN 1)
  have HK3' := Lib.hid (HK3.out.drewN 1)
  obtain ⟨W4, hW4⟩ : ∃ W4 : World, W4 = w3.drew := ⟨_, rfl⟩
  have e1 : w3.drewN 1 = W4 := by rw [hW4]; rfl
  rw [e1] at HO3' HK3'
  have d1 : W4.cell? ⟨w.heap.size, 1, none⟩ = some (.int .i64 n.a) := by rw [hW4]; exact m1
  have d2 : W4.cell? ⟨w.heap.size, 2, none⟩ = some (.int .i64 n.b) := by rw [hW4]; exact m2
  rw [← hW4] at hHeld ⊢
  clear hW4 e1 m0 m1 m2 m3 m4 m5 m6 m7 m8 z4
  refine region_take 0 (some 42) (v := ?_) rfl rfl (by kernel_rfl) (by kernel_rfl) (by kernel_rfl) (fun _ _ _ h => h) (by rfl) ?_ (by assumption) ?_
  rotate_left
  · (intro w hSw; (try dsimp only at hSw); go_simp; try with_reducible rfl)
  try simp only [Act.put, List.setIfInBounds_toArray, List.set_cons_zero, List.set_cons_succ]
  refine region_take 1 (some 43) (v := ?_) rfl rfl (by kernel_rfl) (by kernel_rfl) (by kernel_rfl) (fun _ _ _ h => h) (by rfl) ?_ (by assumption) ?_
  rotate_left
  · (intro w hSw; (try dsimp only at hSw); go_simp; try with_reducible rfl)
  try simp only [Act.put, List.setIfInBounds_toArray, List.set_cons_zero, List.set_cons_succ]
  refine region_take 2 (some 44) (v := ?_) rfl rfl (by kernel_rfl) (by kernel_rfl) (by kernel_rfl) (fun _ _ _ h => h) (by rfl) ?_ (by assumption) ?_
  rotate_left
  · (intro w hSw; (try dsimp only at hSw); go_simp; try with_reducible rfl)
  try simp only [Act.put, List.setIfInBounds_toArray, List.set_cons_zero, List.set_cons_succ]
  refine region_take 4 (some 46) (v := ?_) rfl rfl (by kernel_rfl) (by kernel_rfl) (by kernel_rfl) (fun _ _ _ h => h) (by rfl) ?_ (by assumption) ?_
  rotate_left
  · (intro w hSw; (try dsimp only at hSw); go_simp; try with_reducible rfl)
  try simp only [Act.put, List.setIfInBounds_toArray, List.set_cons_zero, List.set_cons_succ]
  refine region_take 5 (some 47) (v := ?_) rfl rfl (by kernel_rfl) (by kernel_rfl) (by kernel_rfl) (fun _ _ _ h => h) (by rfl) ?_ (by assumption) ?_
  rotate_left
  · (intro w hSw; (try dsimp only at hSw); go_simp; try with_reducible rfl)
  try simp only [Act.put, List.setIfInBounds_toArray, List.set_cons_zero, List.set_cons_succ]
  refine wpAnyH_ready (rs := [3]) (by kernel_rfl) (by simp) ?_
  refine AllReadyH.cons rfl (fun K hK => ?_) AllReadyH.nil
  go_simp
  refine (putNumber_any n.a _ _ w0 _ (by omega) (by omega) HO3'.out (by simp only [List.length_append, List.length_singleton]; omega)).mono ?_
  rintro e W5 ⟨v5, rfl, ho5, hk5⟩
  have HO5 := Lib.hid ho5
  have f1 := hk5.cell' HvX.out d1
  have f2 := hk5.cell' HvX.out d2
  have HK5 := Lib.hid (HK3'.out.trans hk5)
  have HvX5 := Lib.hid (hk5.own (World.block_lt_of_cell? _ _ d1) HvX.out)
  clear ho5 hk5 d1 d2
  go_wp2_with fail
  refine hK.out _ _ ⟨f1, f2⟩ (fun hHeld => ?_)
  clear hK K
  try simp only [Act.put, List.setIfInBounds_toArray, List.set_cons_zero, List.set_cons_succ]
  refine wpAnyH_ready (rs := [6]) (by kernel_rfl) (by simp) ?_
  refine AllReadyH.cons rfl (fun K hK => ?_) AllReadyH.nil
  go_simp
  refine (putNumber_any n.b _ _ w0 _ (by omega) (by omega) HO5.out (by simp only [List.length_append, List.length_singleton]; omega)).mono ?_
  rintro e W6 ⟨v6, rfl, ho6, hk6⟩
  have HO6 := Lib.hid ho6
  have g1 := hk6.cell' HvX5.out f1
  have g2 := hk6.cell' HvX5.out f2
  have HK6 := Lib.hid (HK5.out.trans hk6)
  clear ho6 hk6 f1 f2
  go_wp2_with fail
  refine hK.out _ _ ⟨g1, g2⟩ (fun hHeld => ?_)
  clear hK K
  try simp only [Act.put, List.setIfInBounds_toArray, List.set_cons_zero, List.set_cons_succ]
  refine region_take 7 (some 4) (v := ?_) rfl rfl (by kernel_rfl) (by kernel_rfl) (by kernel_rfl) (fun _ _ _ h => h) (by rfl) ?_ (by assumption) ?_
  rotate_left
  · (intro w hSw; (try dsimp only at hSw); go_simp; try with_reducible rfl)
  try simp only [Act.put, List.setIfInBounds_toArray, List.set_cons_zero, List.set_cons_succ]
  refine wpAnyH_done (by kernel_rfl) ?_ _
  go_wp2_with fail
  go_ret
  refine ⟨_, rfl, ?_, HK6.out⟩
  have := HO6.out
  simpa [List.append_assoc] using this
end Go.Proofs.YtbhniddgkdldlaaGreatDoor
