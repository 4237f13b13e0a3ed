/- Layer 6's reader: contract of expr.reader's operation. -/
import Derived.Test.YtbhniddgkdldlaaGreatDoorExprGx
import Derived.Deep.OwnRows
set_option linter.unusedVariables false
set_option linter.unusedSimpArgs false
namespace Go.Proofs.YtbhniddgkdldlaaGreatDoor
open Go.RowKit Trx

theorem run_nil_code (w : World) (y : Int) : (binOp .eql 28 .nilIface (.iface 32 (.int .i64 y))).run Tryz.prog w = .ok (.bool false) w := by
  have h : ∀ d, (Op.equalIn (d + 1) 28 .nilIface (.iface 32 (.int .i64 y))).run Tryz.prog w = .ok false w := fun d => by
    simp [Op.equalIn, run_underlying Tryz.underlying28]
  simp only [binOp]
  simp [Op.equal, Op.maxDepth, h 9999]
section
variable {R : Nat} {w : World} {A : Option Addr} {c : Nat} {bs : List UInt8} {p n : Nat}
theorem Rdr.setOther (h : Rdr R w A c bs p n) {X : Nat} (hX : R < X) (i : Nat) (u : Value) : Rdr R (w.setCell ⟨X, i, none⟩ u) A c bs p n :=
  h.kx (Kx.setCell (M := Only X) (p := ⟨X, i, none⟩) Kx.refl_ (.inl rfl) u) (Nat.ne_of_lt hX) (fun b hb => by have : b = X := hb; omega)
@[reducible] def opC (b : Int) (nmv : ByteArray) (At : Option Addr) (mt ct : Nat) (yv : Int) (sv : Bool) : Value := .agg #[.int .i64 b, .string nmv, .int .i64 (Opx.kd b), .slice At mt ct, .int .i64 (Opx.gv b), .int .i64 yv, .bool sv]
set_option maxHeartbeats 4000000 in
set_option maxRecDepth 100000 in
theorem operation_ok (h : Rdr R w A c bs p n) (b : Int) (depth : Nat) (hc : opChk depth n b = 0) (hd : depth ≤ 32) (hn : n ≤ 512) (hp : p < bs.length) :
    Calls Tryz.prog 63 #[.pointer (some ⟨R, 0, none⟩), .int .i64 b, .int .i64 depth] w fun e w' => ∃ At mt ct nmv yv sv, e = .returned (.tuple #[opC b nmv At mt ct yv sv, .nilIface]) ∧ Rdr R w' A c bs (p + 1) (n + 1) ∧ Kx (Only R) w w' := by
  have hcs : Opx.flt b = false ∧ knd b ≠ 0 ∧ n < 512 ∧ (knd b = 2 → depth < 32) := by
    rcases opChk_cases depth n b with ⟨_, h1⟩ | ⟨_, _, h1⟩ | ⟨_, _, _, h1⟩ | ⟨_, _, _, _, h1⟩ | ⟨h1, h2, h3, h4, _⟩
    all_goals first | (rw [h1] at hc; cases hc) | exact ⟨h1, h2, h3, h4⟩
  obtain ⟨hf, hk, hn2, hdd⟩ := hcs
  rw [knd_kd hk] at hdd
  have HL : Hid (∀ o, Calls Tryz.prog 50 #[.int .i64 b] (w.alloc o) fun e w' => ∃ At mt ct nmv yv sv, e = .returned (.tuple #[opC b nmv At mt ct yv sv, .nilIface]) ∧ Below (w.alloc o).heap.size (w.alloc o) w') := Lib.hid fun o => by
    refine (Look_op b _ (h.nam.below ((Below.refl _ _).alloc (Nat.le_refl _) o)) (knd_nm hk) hf).mono ?_
    rintro e w' ⟨A, c, rfl, ho'⟩
    exact ⟨_, _, _, _, _, _, rfl, ho'.below⟩
  have HRr := Lib.hid h
  have HP := Lib.hid hp
  have hpm : (p : Int) ≤ 9223372036854775806 := by have := h.hc; have := h.hm; unfold maxLen at this; omega
  have tn : ((n : Int) == 512) = false := by simp; omega
  have hn2' : (n : Int) < 512 := by omega
  obtain ⟨kk, hkk⟩ : ∃ kk, kk = Opx.kd b := ⟨_, rfl⟩
  obtain ⟨gg, hgg⟩ : ∃ gg, gg = Opx.gv b := ⟨_, rfl⟩
  unfold opC at HL ⊢
  rw [← hkk, ← hgg] at HL ⊢
  rw [← hkk] at hdd
  have hdi : (depth : Int) ≤ 32 := by omega
  have hRX := h.lt
  have heq := run_nil_code
  clear h hk hf hc hp hkk hgg
  have hcase : (kk = 2 ∧ ((depth : Int) == 32) = false) ∨ ((kk == 2) = false) := by
    by_cases h2 : kk = 2
    · exact .inl ⟨h2, by have := hdd h2; simp; omega⟩
    · exact .inr (by simpa using h2)
  clear hdd
  rcases hcase with ⟨rfl, td⟩ | tk
  all_goals
    go_enter Tryz.func63, Tryz.ntmps63
    go_wp2_with (first | (go_at_call 50; (with_reducible refine (HL.out _).mono ?_); rintro e w1 ⟨At, mt, ct, nmv, yv, sv, rfl, hb1⟩; obtain ⟨f7, hX1, hbw1⟩ := nine_of hb1; have HR1 := Lib.hid (HRr.out.later hbw1); have HK1 : Hid (Kx (Only R) w w1) := Lib.hid (.of_below hbw1); have d0 := HR1.out.c0; have d1 := HR1.out.c1; have d2 := HR1.out.c2; have df1 := HR1.out.fr 1; have df2 := HR1.out.fr 2; have hltR := HR1.out.lt; have x0 : w1.cell? ⟨w.heap.size, 0, none⟩ = some (.int .i64 0) := f7 0; have x1 : w1.cell? ⟨w.heap.size, 1, none⟩ = some (.string ⟨#[]⟩) := f7 1; have x2 : w1.cell? ⟨w.heap.size, 2, none⟩ = some (.int .i64 0) := f7 2; have x3 : w1.cell? ⟨w.heap.size, 3, none⟩ = some (.slice none 0 0) := f7 3; have x4 : w1.cell? ⟨w.heap.size, 4, none⟩ = some (.int .i64 0) := f7 4; have x5 : w1.cell? ⟨w.heap.size, 5, none⟩ = some (.int .i64 0) := f7 5; have x6 : w1.cell? ⟨w.heap.size, 6, none⟩ = some (.bool false) := f7 6; have xf : ∀ i, w1.frozen? ⟨w.heap.size, i, none⟩ = false := (fun i => (hb1.frozen (p := ⟨w.heap.size, i, none⟩) (by simp)).trans (World.frozen?_alloc_at _ _ _ _ rfl)); clear hb1 f7 hbw1))
    refine bodyPost_ret (v := .tuple #[.agg #[.int .i64 b, .string nmv, .int .i64 _, .slice At mt ct, .int .i64 gg, .int .i64 yv, .bool sv], .nilIface]) (by simp [results, Tryz.results63, go_sem, x0, x1, x2, x3, x4, x5, x6, hX1, hRX, Nat.ne_of_lt hRX, (Nat.ne_of_lt hRX).symm]; rfl) rfl ?_
    refine ⟨At, mt, ct, nmv, yv, sv, rfl, ?_, ?_⟩
    · have h1 := (HR1.out.setN (n + 1)).setAt (q := p + 1) HP.out
      exact ((((((((h1.setOther hRX 0 _).setOther hRX 1 _).setOther hRX 2 _).setOther hRX 3 _).setOther hRX 4 _).setOther hRX 5 _).setOther hRX 6 _)).later ((Below.refl _ _).alloc (Nat.le_refl _) _)
    · exact (((((((((HK1.out.setCell (p := ⟨R, 2, none⟩) (.inl rfl) _).setCell (p := ⟨R, 1, none⟩) (.inl rfl) _).setCell (p := ⟨w.heap.size, 0, none⟩) (.inr (Nat.le_refl _)) _).setCell (p := ⟨w.heap.size, 1, none⟩) (.inr (Nat.le_refl _)) _).setCell (p := ⟨w.heap.size, 2, none⟩) (.inr (Nat.le_refl _)) _).setCell (p := ⟨w.heap.size, 3, none⟩) (.inr (Nat.le_refl _)) _).setCell (p := ⟨w.heap.size, 4, none⟩) (.inr (Nat.le_refl _)) _).setCell (p := ⟨w.heap.size, 5, none⟩) (.inr (Nat.le_refl _)) _).setCell (p := ⟨w.heap.size, 6, none⟩) (.inr (Nat.le_refl _)) _).alloc _
end
end Go.Proofs.YtbhniddgkdldlaaGreatDoor

/- Layer 6's reader: contract of expr.reader's operation, where something is amiss. -/
namespace Go.Proofs.YtbhniddgkdldlaaGreatDoor
open Go.RowKit Trx

section
variable {R : Nat} {w : World} {A : Option Addr} {c : Nat} {bs : List UInt8} {p n : Nat}
set_option maxRecDepth 100000 in
theorem spot_new (p : Int) (k : Int) (w : World) : Calls Tryz.prog 85 #[.int .i64 p, .int .i64 k] w fun e w' => ∃ b o, e = .returned (.iface 64 (.pointer (some ⟨b, o, none⟩))) ∧ w'.cell? ⟨b, o, none⟩ = some (.int .i64 p) ∧ w'.cell? ⟨b, o + 1, none⟩ = some (.iface 32 (.int .i64 k)) ∧ w.heap.size ≤ b ∧ Below w.heap.size w w' := by
  go_enter Tryz.func85, Tryz.ntmps85
  go_wp2
  go_ret
  obtain ⟨b, o, h1, h2, h3⟩ := SpotIs.new w p k 69
  simp only [Value.iface.injEq, Value.pointer.injEq, Option.some.injEq, Addr.mk.injEq, and_true, true_and] at h1
  obtain ⟨rfl, rfl⟩ := h1
  exact ⟨_, _, rfl, h2, h3, Nat.le_refl _, (Below.refl _ _).alloc (Nat.le_refl _) _⟩
set_option maxRecDepth 100000 in
theorem fault_new (k : Int) (h : Rdr R w A c bs p n) :
    Calls Tryz.prog 62 #[.pointer (some ⟨R, 0, none⟩), .int .i64 k] w fun e w' => ∃ b o, e = .returned (.iface 64 (.pointer (some ⟨b, o, none⟩))) ∧ w'.cell? ⟨b, o, none⟩ = some (.int .i64 p) ∧ w'.cell? ⟨b, o + 1, none⟩ = some (.iface 32 (.int .i64 k)) ∧ w.heap.size ≤ b ∧ Below w.heap.size w w' := by
  have c1 := h.c1
  have hlt := h.lt
  clear h
  have HS := Lib.hid (fun w => spot_new p k w)
  go_enter Tryz.func62, Tryz.ntmps62
  go_wp2_with (first | (go_at_call 85; (with_reducible refine (HS.out _).mono ?_); rintro e w1 ⟨sb, so, rfl, hs1, hs2, hs3, hb⟩; have HS1 := Lib.hid hs1; have HS2 := Lib.hid hs2; have HS3 := Lib.hid hs3; have HB := Lib.hid hb; clear hs1 hs2 hs3 hb))
  go_ret
  exact ⟨_, _, rfl, HS1.out, HS2.out, HS3.out, HB.out⟩
theorem cell_set_ne {w : World} {b o X i : Nat} {u x : Value} (h : w.cell? ⟨b, o, none⟩ = some x) (hb : b ≠ X) : (w.setCell ⟨X, i, none⟩ u).cell? ⟨b, o, none⟩ = some x :=
  (World.cell?_setCell_other _ _ _ _ (by intro e; injection e with e; first | exact hb e | exact hb e.symm)).trans h

set_option maxHeartbeats 4000000 in
set_option maxRecDepth 100000 in
theorem operation_flt (h : Rdr R w A c bs p n) (b : Int) (depth : Nat) (hf : Opx.flt b = true) :
    Calls Tryz.prog 63 #[.pointer (some ⟨R, 0, none⟩), .int .i64 b, .int .i64 depth] w fun e w' => ∃ v, e = .returned (.tuple #[noV, v]) ∧ SpotIs w' v p 3 ∧ Kx (Only R) w w' := by
  have HL : Hid (∀ o, Calls Tryz.prog 50 #[.int .i64 b] (w.alloc o) fun e w' => e = .returned (.tuple #[noV, .iface 32 (.int .i64 3)]) ∧ Below (w.alloc o).heap.size (w.alloc o) w') := Lib.hid fun o => by
    exact Look_flt b _ hf
  unfold noV at HL ⊢
  have HRr := Lib.hid h
  have hRX := h.lt
  have heq : ∀ w, _ := fun w => run_eql_code w 3 3
  clear h hf
  go_enter Tryz.func63, Tryz.ntmps63
  go_wp2_with (first
      | (go_at_call 50; (with_reducible refine (HL.out _).mono ?_); rintro e w1 ⟨rfl, hb1⟩; obtain ⟨f7, hX1, hbw1⟩ := nine_of hb1; have HR1 := Lib.hid (HRr.out.later hbw1); have HK1 : Hid (Kx (Only R) w w1) := Lib.hid (.of_below hbw1); have d0 := HR1.out.c0; have d1 := HR1.out.c1; have d2 := HR1.out.c2; have df1 := HR1.out.fr 1; have df2 := HR1.out.fr 2; have hltR := HR1.out.lt; have x0 : w1.cell? ⟨w.heap.size, 0, none⟩ = some (.int .i64 0) := f7 0; have x1 : w1.cell? ⟨w.heap.size, 1, none⟩ = some (.string ⟨#[]⟩) := f7 1; have x2 : w1.cell? ⟨w.heap.size, 2, none⟩ = some (.int .i64 0) := f7 2; have x3 : w1.cell? ⟨w.heap.size, 3, none⟩ = some (.slice none 0 0) := f7 3; have x4 : w1.cell? ⟨w.heap.size, 4, none⟩ = some (.int .i64 0) := f7 4; have x5 : w1.cell? ⟨w.heap.size, 5, none⟩ = some (.int .i64 0) := f7 5; have x6 : w1.cell? ⟨w.heap.size, 6, none⟩ = some (.bool false) := f7 6; have xf : ∀ i, w1.frozen? ⟨w.heap.size, i, none⟩ = false := (fun i => (hb1.frozen (p := ⟨w.heap.size, i, none⟩) (by simp)).trans (World.frozen?_alloc_at _ _ _ _ rfl)); clear hb1 f7 hbw1)
      | (go_at_call 62; (with_reducible refine (fault_new _ (HR1.out.later ((Below.refl _ _).alloc (Nat.le_refl _) _))).mono ?_); rintro e w2 ⟨sb, so, rfl, hs1, hs2, hs3, hb2⟩; have y0 : w2.cell? ⟨w.heap.size, 0, none⟩ = some (.int .i64 0) := (hb2.cell (p := ⟨w.heap.size, 0, none⟩) (by simp; omega)).trans ((World.cell?_alloc_lt _ _ _ hX1).trans x0); have y1 : w2.cell? ⟨w.heap.size, 1, none⟩ = some (.string ⟨#[]⟩) := (hb2.cell (p := ⟨w.heap.size, 1, none⟩) (by simp; omega)).trans ((World.cell?_alloc_lt _ _ _ hX1).trans x1); have y2 : w2.cell? ⟨w.heap.size, 2, none⟩ = some (.int .i64 0) := (hb2.cell (p := ⟨w.heap.size, 2, none⟩) (by simp; omega)).trans ((World.cell?_alloc_lt _ _ _ hX1).trans x2); have y3 : w2.cell? ⟨w.heap.size, 3, none⟩ = some (.slice none 0 0) := (hb2.cell (p := ⟨w.heap.size, 3, none⟩) (by simp; omega)).trans ((World.cell?_alloc_lt _ _ _ hX1).trans x3); have y4 : w2.cell? ⟨w.heap.size, 4, none⟩ = some (.int .i64 0) := (hb2.cell (p := ⟨w.heap.size, 4, none⟩) (by simp; omega)).trans ((World.cell?_alloc_lt _ _ _ hX1).trans x4); have y5 : w2.cell? ⟨w.heap.size, 5, none⟩ = some (.int .i64 0) := (hb2.cell (p := ⟨w.heap.size, 5, none⟩) (by simp; omega)).trans ((World.cell?_alloc_lt _ _ _ hX1).trans x5); have y6 : w2.cell? ⟨w.heap.size, 6, none⟩ = some (.bool false) := (hb2.cell (p := ⟨w.heap.size, 6, none⟩) (by simp; omega)).trans ((World.cell?_alloc_lt _ _ _ hX1).trans x6); have yf : ∀ i, w2.frozen? ⟨w.heap.size, i, none⟩ = false := (fun i => (hb2.frozen (p := ⟨w.heap.size, i, none⟩) (by simp; omega)).trans ((World.frozen?_alloc_old _ _ _ (Nat.ne_of_lt hX1)).trans (xf i))); have hsb : w.heap.size < w2.heap.size := Nat.lt_of_lt_of_le hX1 (Nat.le_trans (by simp) hb2.size); have hne : sb ≠ w.heap.size := (by simp at hs3; omega); have HS1 := Lib.hid hs1; have HS2 := Lib.hid hs2; have HK2 := Lib.hid ((HK1.out.alloc _).trans (.of_below hb2)); clear hs1 hs2 hs3 hb2))
  refine bodyPost_ret (v := .tuple #[noV, .iface 64 (.pointer (some ⟨sb, so, none⟩))]) (by simp [results, Tryz.results63, go_sem, noV, y0, y1, y2, y3, y4, y5, y6, hsb]) rfl ?_
  exact ⟨_, rfl, ⟨sb, so, rfl, (cell_set_ne (cell_set_ne (cell_set_ne (cell_set_ne (cell_set_ne (cell_set_ne (cell_set_ne HS1.out hne) hne) hne) hne) hne) hne) hne), (cell_set_ne (cell_set_ne (cell_set_ne (cell_set_ne (cell_set_ne (cell_set_ne (cell_set_ne HS2.out hne) hne) hne) hne) hne) hne) hne)⟩, (((((((HK2.out.setCell (p := ⟨w.heap.size, 0, none⟩) (.inr (Nat.le_refl _)) _).setCell (p := ⟨w.heap.size, 1, none⟩) (.inr (Nat.le_refl _)) _).setCell (p := ⟨w.heap.size, 2, none⟩) (.inr (Nat.le_refl _)) _).setCell (p := ⟨w.heap.size, 3, none⟩) (.inr (Nat.le_refl _)) _).setCell (p := ⟨w.heap.size, 4, none⟩) (.inr (Nat.le_refl _)) _).setCell (p := ⟨w.heap.size, 5, none⟩) (.inr (Nat.le_refl _)) _).setCell (p := ⟨w.heap.size, 6, none⟩) (.inr (Nat.le_refl _)) _)⟩

set_option maxHeartbeats 4000000 in
set_option maxRecDepth 100000 in
theorem operation_non (h : Rdr R w A c bs p n) (b : Int) (depth : Nat) (hf : Opx.flt b = false) (hk : knd b = 0) (b0 : -9223372036854775808 ≤ b) (b1 : b ≤ 9223372036854775807) :
    Calls Tryz.prog 63 #[.pointer (some ⟨R, 0, none⟩), .int .i64 b, .int .i64 depth] w fun e w' => ∃ v, e = .returned (.tuple #[noV, v]) ∧ SpotIs w' v p 2 ∧ Kx (Only R) w w' := by
  have HL : Hid (∀ o, Calls Tryz.prog 50 #[.int .i64 b] (w.alloc o) fun e w' => e = .returned (.tuple #[noV, .iface 32 (.int .i64 5)]) ∧ Below (w.alloc o).heap.size (w.alloc o) w') := Lib.hid fun o => by
    have hN := h.nam.below ((Below.refl _ _).alloc (Nat.le_refl _) o)
    exact Look_none b _ hN b0 b1 hf ((knd_noneE hk).resolve_right (kd_pos b))
  unfold noV at HL ⊢
  have HRr := Lib.hid h
  have hRX := h.lt
  have heq : ∀ w, _ := fun w => run_eql_code w 5 3
  clear h hf hk
  go_enter Tryz.func63, Tryz.ntmps63
  go_wp2_with (first
      | (go_at_call 50; (with_reducible refine (HL.out _).mono ?_); rintro e w1 ⟨rfl, hb1⟩; obtain ⟨f7, hX1, hbw1⟩ := nine_of hb1; have HR1 := Lib.hid (HRr.out.later hbw1); have HK1 : Hid (Kx (Only R) w w1) := Lib.hid (.of_below hbw1); have d0 := HR1.out.c0; have d1 := HR1.out.c1; have d2 := HR1.out.c2; have df1 := HR1.out.fr 1; have df2 := HR1.out.fr 2; have hltR := HR1.out.lt; have x0 : w1.cell? ⟨w.heap.size, 0, none⟩ = some (.int .i64 0) := f7 0; have x1 : w1.cell? ⟨w.heap.size, 1, none⟩ = some (.string ⟨#[]⟩) := f7 1; have x2 : w1.cell? ⟨w.heap.size, 2, none⟩ = some (.int .i64 0) := f7 2; have x3 : w1.cell? ⟨w.heap.size, 3, none⟩ = some (.slice none 0 0) := f7 3; have x4 : w1.cell? ⟨w.heap.size, 4, none⟩ = some (.int .i64 0) := f7 4; have x5 : w1.cell? ⟨w.heap.size, 5, none⟩ = some (.int .i64 0) := f7 5; have x6 : w1.cell? ⟨w.heap.size, 6, none⟩ = some (.bool false) := f7 6; have xf : ∀ i, w1.frozen? ⟨w.heap.size, i, none⟩ = false := (fun i => (hb1.frozen (p := ⟨w.heap.size, i, none⟩) (by simp)).trans (World.frozen?_alloc_at _ _ _ _ rfl)); clear hb1 f7 hbw1)
      | (go_at_call 62; (with_reducible refine (fault_new _ (HR1.out.later ((Below.refl _ _).alloc (Nat.le_refl _) _))).mono ?_); rintro e w2 ⟨sb, so, rfl, hs1, hs2, hs3, hb2⟩; have y0 : w2.cell? ⟨w.heap.size, 0, none⟩ = some (.int .i64 0) := (hb2.cell (p := ⟨w.heap.size, 0, none⟩) (by simp; omega)).trans ((World.cell?_alloc_lt _ _ _ hX1).trans x0); have y1 : w2.cell? ⟨w.heap.size, 1, none⟩ = some (.string ⟨#[]⟩) := (hb2.cell (p := ⟨w.heap.size, 1, none⟩) (by simp; omega)).trans ((World.cell?_alloc_lt _ _ _ hX1).trans x1); have y2 : w2.cell? ⟨w.heap.size, 2, none⟩ = some (.int .i64 0) := (hb2.cell (p := ⟨w.heap.size, 2, none⟩) (by simp; omega)).trans ((World.cell?_alloc_lt _ _ _ hX1).trans x2); have y3 : w2.cell? ⟨w.heap.size, 3, none⟩ = some (.slice none 0 0) := (hb2.cell (p := ⟨w.heap.size, 3, none⟩) (by simp; omega)).trans ((World.cell?_alloc_lt _ _ _ hX1).trans x3); have y4 : w2.cell? ⟨w.heap.size, 4, none⟩ = some (.int .i64 0) := (hb2.cell (p := ⟨w.heap.size, 4, none⟩) (by simp; omega)).trans ((World.cell?_alloc_lt _ _ _ hX1).trans x4); have y5 : w2.cell? ⟨w.heap.size, 5, none⟩ = some (.int .i64 0) := (hb2.cell (p := ⟨w.heap.size, 5, none⟩) (by simp; omega)).trans ((World.cell?_alloc_lt _ _ _ hX1).trans x5); have y6 : w2.cell? ⟨w.heap.size, 6, none⟩ = some (.bool false) := (hb2.cell (p := ⟨w.heap.size, 6, none⟩) (by simp; omega)).trans ((World.cell?_alloc_lt _ _ _ hX1).trans x6); have yf : ∀ i, w2.frozen? ⟨w.heap.size, i, none⟩ = false := (fun i => (hb2.frozen (p := ⟨w.heap.size, i, none⟩) (by simp; omega)).trans ((World.frozen?_alloc_old _ _ _ (Nat.ne_of_lt hX1)).trans (xf i))); have hsb : w.heap.size < w2.heap.size := Nat.lt_of_lt_of_le hX1 (Nat.le_trans (by simp) hb2.size); have hne : sb ≠ w.heap.size := (by simp at hs3; omega); have HS1 := Lib.hid hs1; have HS2 := Lib.hid hs2; have HK2 := Lib.hid ((HK1.out.alloc _).trans (.of_below hb2)); clear hs1 hs2 hs3 hb2))
  refine bodyPost_ret (v := .tuple #[noV, .iface 64 (.pointer (some ⟨sb, so, none⟩))]) (by simp [results, Tryz.results63, go_sem, noV, y0, y1, y2, y3, y4, y5, y6, hsb]) rfl ?_
  exact ⟨_, rfl, ⟨sb, so, rfl, (cell_set_ne (cell_set_ne (cell_set_ne (cell_set_ne (cell_set_ne (cell_set_ne (cell_set_ne HS1.out hne) hne) hne) hne) hne) hne) hne), (cell_set_ne (cell_set_ne (cell_set_ne (cell_set_ne (cell_set_ne (cell_set_ne (cell_set_ne HS2.out hne) hne) hne) hne) hne) hne) hne)⟩, (((((((HK2.out.setCell (p := ⟨w.heap.size, 0, none⟩) (.inr (Nat.le_refl _)) _).setCell (p := ⟨w.heap.size, 1, none⟩) (.inr (Nat.le_refl _)) _).setCell (p := ⟨w.heap.size, 2, none⟩) (.inr (Nat.le_refl _)) _).setCell (p := ⟨w.heap.size, 3, none⟩) (.inr (Nat.le_refl _)) _).setCell (p := ⟨w.heap.size, 4, none⟩) (.inr (Nat.le_refl _)) _).setCell (p := ⟨w.heap.size, 5, none⟩) (.inr (Nat.le_refl _)) _).setCell (p := ⟨w.heap.size, 6, none⟩) (.inr (Nat.le_refl _)) _)⟩

set_option maxHeartbeats 4000000 in
set_option maxRecDepth 100000 in
theorem operation_big (h : Rdr R w A c bs p n) (b : Int) (depth : Nat) (hf : Opx.flt b = false) (hk : knd b ≠ 0) (hn : n = 512) :
    Calls Tryz.prog 63 #[.pointer (some ⟨R, 0, none⟩), .int .i64 b, .int .i64 depth] w fun e w' => ∃ v, e = .returned (.tuple #[noV, v]) ∧ SpotIs w' v p 7 ∧ Kx (Only R) w w' := by
  have HL : Hid (∀ o, Calls Tryz.prog 50 #[.int .i64 b] (w.alloc o) fun e w' => ∃ At mt ct nmv yv sv, e = .returned (.tuple #[opC b nmv At mt ct yv sv, .nilIface]) ∧ Below (w.alloc o).heap.size (w.alloc o) w') := Lib.hid fun o => by
    refine (Look_op b _ (h.nam.below ((Below.refl _ _).alloc (Nat.le_refl _) o)) (knd_nm hk) hf).mono ?_
    rintro e w' ⟨A, c, rfl, ho'⟩
    exact ⟨_, _, _, _, _, _, rfl, ho'.below⟩
  unfold opC at HL
  unfold noV
  have hkk' := knd_kd hk
  obtain ⟨kk, hkk⟩ : ∃ kk, kk = Opx.kd b := ⟨_, rfl⟩
  obtain ⟨gg, hgg⟩ : ∃ gg, gg = Opx.gv b := ⟨_, rfl⟩
  rw [← hkk, ← hgg] at HL
  rw [← hkk] at hkk'
  have HRr := Lib.hid h
  have hRX := h.lt
  have heq := run_nil_code
  have tn : ((n : Int) == 512) = true := by simp; omega
  clear h hf hk hn hkk hkk' hgg
  go_enter Tryz.func63, Tryz.ntmps63
  go_wp2_with (first
      | (go_at_call 50; (with_reducible refine (HL.out _).mono ?_); rintro e w1 ⟨At, mt, ct, nmv, yv, sv, rfl, hb1⟩; obtain ⟨f7, hX1, hbw1⟩ := nine_of hb1; have HR1 := Lib.hid (HRr.out.later hbw1); have HK1 : Hid (Kx (Only R) w w1) := Lib.hid (.of_below hbw1); have d0 := HR1.out.c0; have d1 := HR1.out.c1; have d2 := HR1.out.c2; have df1 := HR1.out.fr 1; have df2 := HR1.out.fr 2; have hltR := HR1.out.lt; have x0 : w1.cell? ⟨w.heap.size, 0, none⟩ = some (.int .i64 0) := f7 0; have x1 : w1.cell? ⟨w.heap.size, 1, none⟩ = some (.string ⟨#[]⟩) := f7 1; have x2 : w1.cell? ⟨w.heap.size, 2, none⟩ = some (.int .i64 0) := f7 2; have x3 : w1.cell? ⟨w.heap.size, 3, none⟩ = some (.slice none 0 0) := f7 3; have x4 : w1.cell? ⟨w.heap.size, 4, none⟩ = some (.int .i64 0) := f7 4; have x5 : w1.cell? ⟨w.heap.size, 5, none⟩ = some (.int .i64 0) := f7 5; have x6 : w1.cell? ⟨w.heap.size, 6, none⟩ = some (.bool false) := f7 6; have xf : ∀ i, w1.frozen? ⟨w.heap.size, i, none⟩ = false := (fun i => (hb1.frozen (p := ⟨w.heap.size, i, none⟩) (by simp)).trans (World.frozen?_alloc_at _ _ _ _ rfl)); clear hb1 f7 hbw1)
      | (go_at_call 62; (with_reducible refine (fault_new _ (HR1.out.later ((Below.refl _ _).alloc (Nat.le_refl _) _))).mono ?_); rintro e w2 ⟨sb, so, rfl, hs1, hs2, hs3, hb2⟩; have y0 : w2.cell? ⟨w.heap.size, 0, none⟩ = some (.int .i64 0) := (hb2.cell (p := ⟨w.heap.size, 0, none⟩) (by simp; omega)).trans ((World.cell?_alloc_lt _ _ _ hX1).trans x0); have y1 : w2.cell? ⟨w.heap.size, 1, none⟩ = some (.string ⟨#[]⟩) := (hb2.cell (p := ⟨w.heap.size, 1, none⟩) (by simp; omega)).trans ((World.cell?_alloc_lt _ _ _ hX1).trans x1); have y2 : w2.cell? ⟨w.heap.size, 2, none⟩ = some (.int .i64 0) := (hb2.cell (p := ⟨w.heap.size, 2, none⟩) (by simp; omega)).trans ((World.cell?_alloc_lt _ _ _ hX1).trans x2); have y3 : w2.cell? ⟨w.heap.size, 3, none⟩ = some (.slice none 0 0) := (hb2.cell (p := ⟨w.heap.size, 3, none⟩) (by simp; omega)).trans ((World.cell?_alloc_lt _ _ _ hX1).trans x3); have y4 : w2.cell? ⟨w.heap.size, 4, none⟩ = some (.int .i64 0) := (hb2.cell (p := ⟨w.heap.size, 4, none⟩) (by simp; omega)).trans ((World.cell?_alloc_lt _ _ _ hX1).trans x4); have y5 : w2.cell? ⟨w.heap.size, 5, none⟩ = some (.int .i64 0) := (hb2.cell (p := ⟨w.heap.size, 5, none⟩) (by simp; omega)).trans ((World.cell?_alloc_lt _ _ _ hX1).trans x5); have y6 : w2.cell? ⟨w.heap.size, 6, none⟩ = some (.bool false) := (hb2.cell (p := ⟨w.heap.size, 6, none⟩) (by simp; omega)).trans ((World.cell?_alloc_lt _ _ _ hX1).trans x6); have yf : ∀ i, w2.frozen? ⟨w.heap.size, i, none⟩ = false := (fun i => (hb2.frozen (p := ⟨w.heap.size, i, none⟩) (by simp; omega)).trans ((World.frozen?_alloc_old _ _ _ (Nat.ne_of_lt hX1)).trans (xf i))); have hsb : w.heap.size < w2.heap.size := Nat.lt_of_lt_of_le hX1 (Nat.le_trans (by simp) hb2.size); have hne : sb ≠ w.heap.size := (by simp at hs3; omega); have HS1 := Lib.hid hs1; have HS2 := Lib.hid hs2; have HK2 := Lib.hid ((HK1.out.alloc _).trans (.of_below hb2)); clear hs1 hs2 hs3 hb2))
  refine bodyPost_ret (v := .tuple #[noV, .iface 64 (.pointer (some ⟨sb, so, none⟩))]) (by simp [results, Tryz.results63, go_sem, noV, y0, y1, y2, y3, y4, y5, y6, hsb]) rfl ?_
  exact ⟨_, rfl, ⟨sb, so, rfl, (cell_set_ne (cell_set_ne (cell_set_ne (cell_set_ne (cell_set_ne (cell_set_ne (cell_set_ne HS1.out hne) hne) hne) hne) hne) hne) hne), (cell_set_ne (cell_set_ne (cell_set_ne (cell_set_ne (cell_set_ne (cell_set_ne (cell_set_ne HS2.out hne) hne) hne) hne) hne) hne) hne)⟩, (((((((HK2.out.setCell (p := ⟨w.heap.size, 0, none⟩) (.inr (Nat.le_refl _)) _).setCell (p := ⟨w.heap.size, 1, none⟩) (.inr (Nat.le_refl _)) _).setCell (p := ⟨w.heap.size, 2, none⟩) (.inr (Nat.le_refl _)) _).setCell (p := ⟨w.heap.size, 3, none⟩) (.inr (Nat.le_refl _)) _).setCell (p := ⟨w.heap.size, 4, none⟩) (.inr (Nat.le_refl _)) _).setCell (p := ⟨w.heap.size, 5, none⟩) (.inr (Nat.le_refl _)) _).setCell (p := ⟨w.heap.size, 6, none⟩) (.inr (Nat.le_refl _)) _)⟩

set_option maxHeartbeats 4000000 in
set_option maxRecDepth 100000 in
theorem operation_deep (h : Rdr R w A c bs p n) (b : Int) (depth : Nat) (hf : Opx.flt b = false) (hk : knd b ≠ 0) (hk2 : knd b = 2) (hn : n < 512) (hd : depth = 32) :
    Calls Tryz.prog 63 #[.pointer (some ⟨R, 0, none⟩), .int .i64 b, .int .i64 depth] w fun e w' => ∃ v, e = .returned (.tuple #[noV, v]) ∧ SpotIs w' v p 7 ∧ Kx (Only R) w w' := by
  have HL : Hid (∀ o, Calls Tryz.prog 50 #[.int .i64 b] (w.alloc o) fun e w' => ∃ At mt ct nmv yv sv, e = .returned (.tuple #[opC b nmv At mt ct yv sv, .nilIface]) ∧ Below (w.alloc o).heap.size (w.alloc o) w') := Lib.hid fun o => by
    refine (Look_op b _ (h.nam.below ((Below.refl _ _).alloc (Nat.le_refl _) o)) (knd_nm hk) hf).mono ?_
    rintro e w' ⟨A, c, rfl, ho'⟩
    exact ⟨_, _, _, _, _, _, rfl, ho'.below⟩
  unfold opC at HL
  unfold noV
  have hkk' := knd_kd hk
  obtain ⟨kk, hkk⟩ : ∃ kk, kk = Opx.kd b := ⟨_, rfl⟩
  obtain ⟨gg, hgg⟩ : ∃ gg, gg = Opx.gv b := ⟨_, rfl⟩
  rw [← hkk, ← hgg] at HL
  rw [← hkk] at hkk'
  have HRr := Lib.hid h
  have hRX := h.lt
  have heq := run_nil_code
  have tn : ((n : Int) == 512) = false := by simp; omega
  have tk : (kk == 2) = true := by rw [← hkk', hk2]; rfl
  have td : ((depth : Int) == 32) = true := by simp; omega
  clear h hf hk hn hk2 hd hkk hkk' hgg
  go_enter Tryz.func63, Tryz.ntmps63
  go_wp2_with (first
      | (go_at_call 50; (with_reducible refine (HL.out _).mono ?_); rintro e w1 ⟨At, mt, ct, nmv, yv, sv, rfl, hb1⟩; obtain ⟨f7, hX1, hbw1⟩ := nine_of hb1; have HR1 := Lib.hid (HRr.out.later hbw1); have HK1 : Hid (Kx (Only R) w w1) := Lib.hid (.of_below hbw1); have d0 := HR1.out.c0; have d1 := HR1.out.c1; have d2 := HR1.out.c2; have df1 := HR1.out.fr 1; have df2 := HR1.out.fr 2; have hltR := HR1.out.lt; have x0 : w1.cell? ⟨w.heap.size, 0, none⟩ = some (.int .i64 0) := f7 0; have x1 : w1.cell? ⟨w.heap.size, 1, none⟩ = some (.string ⟨#[]⟩) := f7 1; have x2 : w1.cell? ⟨w.heap.size, 2, none⟩ = some (.int .i64 0) := f7 2; have x3 : w1.cell? ⟨w.heap.size, 3, none⟩ = some (.slice none 0 0) := f7 3; have x4 : w1.cell? ⟨w.heap.size, 4, none⟩ = some (.int .i64 0) := f7 4; have x5 : w1.cell? ⟨w.heap.size, 5, none⟩ = some (.int .i64 0) := f7 5; have x6 : w1.cell? ⟨w.heap.size, 6, none⟩ = some (.bool false) := f7 6; have xf : ∀ i, w1.frozen? ⟨w.heap.size, i, none⟩ = false := (fun i => (hb1.frozen (p := ⟨w.heap.size, i, none⟩) (by simp)).trans (World.frozen?_alloc_at _ _ _ _ rfl)); clear hb1 f7 hbw1)
      | (go_at_call 62; (with_reducible refine (fault_new _ (HR1.out.later ((Below.refl _ _).alloc (Nat.le_refl _) _))).mono ?_); rintro e w2 ⟨sb, so, rfl, hs1, hs2, hs3, hb2⟩; have y0 : w2.cell? ⟨w.heap.size, 0, none⟩ = some (.int .i64 0) := (hb2.cell (p := ⟨w.heap.size, 0, none⟩) (by simp; omega)).trans ((World.cell?_alloc_lt _ _ _ hX1).trans x0); have y1 : w2.cell? ⟨w.heap.size, 1, none⟩ = some (.string ⟨#[]⟩) := (hb2.cell (p := ⟨w.heap.size, 1, none⟩) (by simp; omega)).trans ((World.cell?_alloc_lt _ _ _ hX1).trans x1); have y2 : w2.cell? ⟨w.heap.size, 2, none⟩ = some (.int .i64 0) := (hb2.cell (p := ⟨w.heap.size, 2, none⟩) (by simp; omega)).trans ((World.cell?_alloc_lt _ _ _ hX1).trans x2); have y3 : w2.cell? ⟨w.heap.size, 3, none⟩ = some (.slice none 0 0) := (hb2.cell (p := ⟨w.heap.size, 3, none⟩) (by simp; omega)).trans ((World.cell?_alloc_lt _ _ _ hX1).trans x3); have y4 : w2.cell? ⟨w.heap.size, 4, none⟩ = some (.int .i64 0) := (hb2.cell (p := ⟨w.heap.size, 4, none⟩) (by simp; omega)).trans ((World.cell?_alloc_lt _ _ _ hX1).trans x4); have y5 : w2.cell? ⟨w.heap.size, 5, none⟩ = some (.int .i64 0) := (hb2.cell (p := ⟨w.heap.size, 5, none⟩) (by simp; omega)).trans ((World.cell?_alloc_lt _ _ _ hX1).trans x5); have y6 : w2.cell? ⟨w.heap.size, 6, none⟩ = some (.bool false) := (hb2.cell (p := ⟨w.heap.size, 6, none⟩) (by simp; omega)).trans ((World.cell?_alloc_lt _ _ _ hX1).trans x6); have yf : ∀ i, w2.frozen? ⟨w.heap.size, i, none⟩ = false := (fun i => (hb2.frozen (p := ⟨w.heap.size, i, none⟩) (by simp; omega)).trans ((World.frozen?_alloc_old _ _ _ (Nat.ne_of_lt hX1)).trans (xf i))); have hsb : w.heap.size < w2.heap.size := Nat.lt_of_lt_of_le hX1 (Nat.le_trans (by simp) hb2.size); have hne : sb ≠ w.heap.size := (by simp at hs3; omega); have HS1 := Lib.hid hs1; have HS2 := Lib.hid hs2; have HK2 := Lib.hid ((HK1.out.alloc _).trans (.of_below hb2)); clear hs1 hs2 hs3 hb2))
  refine bodyPost_ret (v := .tuple #[noV, .iface 64 (.pointer (some ⟨sb, so, none⟩))]) (by simp [results, Tryz.results63, go_sem, noV, y0, y1, y2, y3, y4, y5, y6, hsb]) rfl ?_
  exact ⟨_, rfl, ⟨sb, so, rfl, (cell_set_ne (cell_set_ne (cell_set_ne (cell_set_ne (cell_set_ne (cell_set_ne (cell_set_ne HS1.out hne) hne) hne) hne) hne) hne) hne), (cell_set_ne (cell_set_ne (cell_set_ne (cell_set_ne (cell_set_ne (cell_set_ne (cell_set_ne HS2.out hne) hne) hne) hne) hne) hne) hne)⟩, (((((((HK2.out.setCell (p := ⟨w.heap.size, 0, none⟩) (.inr (Nat.le_refl _)) _).setCell (p := ⟨w.heap.size, 1, none⟩) (.inr (Nat.le_refl _)) _).setCell (p := ⟨w.heap.size, 2, none⟩) (.inr (Nat.le_refl _)) _).setCell (p := ⟨w.heap.size, 3, none⟩) (.inr (Nat.le_refl _)) _).setCell (p := ⟨w.heap.size, 4, none⟩) (.inr (Nat.le_refl _)) _).setCell (p := ⟨w.heap.size, 5, none⟩) (.inr (Nat.le_refl _)) _).setCell (p := ⟨w.heap.size, 6, none⟩) (.inr (Nat.le_refl _)) _)⟩

theorem operation_err (h : Rdr R w A c bs p n) (b : Int) (depth k : Nat) (hk : opChk depth n b = k) (hk0 : k ≠ 0) (hd : depth ≤ 32) (hn : n ≤ 512) (b0 : -9223372036854775808 ≤ b) (b1 : b ≤ 9223372036854775807) :
    Calls Tryz.prog 63 #[.pointer (some ⟨R, 0, none⟩), .int .i64 b, .int .i64 depth] w fun e w' => ∃ v, e = .returned (.tuple #[noV, v]) ∧ SpotIs w' v p k ∧ Kx (Only R) w w' := by
  rcases opChk_cases depth n b with ⟨hf, h1⟩ | ⟨hf, hz, h1⟩ | ⟨hf, hz, hn', h1⟩ | ⟨hf, hz, hn', hd', h1⟩ | ⟨_, _, _, _, h1⟩
  · obtain rfl : k = 3 := by omega
    exact operation_flt h b depth hf
  · obtain rfl : k = 2 := by omega
    exact operation_non h b depth hf hz b0 b1
  · obtain rfl : k = 7 := by omega
    exact operation_big h b depth hf hz (by omega)
  · obtain rfl : k = 7 := by omega
    exact operation_deep h b depth hf (by omega) hz hn' (by omega)
  · omega
end
end Go.Proofs.YtbhniddgkdldlaaGreatDoor

/- Layer 6's reader: contract of expr.reader's labels. -/
namespace Go.Proofs.YtbhniddgkdldlaaGreatDoor.Trx
/-- a list of labels, with how many there are. -/
def rdLab (l : List UInt8) (p : Nat) : Rs (List Int) := match rdInt l p with
  | .error e => .error e
  | .ok (m, l1, p1) => if 63 < m then .error (7, p) else rdTab (m.toNat + 1) l1 p1
def preT (pre : List Int) : Rs (List Int) → Rs (List Int)
  | .error e => .error e
  | .ok (L, l, p) => .ok (pre ++ L, l, p)
theorem preT_nil (r : Rs (List Int)) : preT [] r = r := by rcases r with e | ⟨L, l, p⟩ <;> rfl
theorem tab_succ (k : Nat) (l : List UInt8) (p : Nat) : rdTab (k + 1) l p = match rdInt l p with
    | .error e => .error e
    | .ok (x, l1, p1) => preT [x] (rdTab k l1 p1) := by
  rw [rdTab]
  rcases rdInt l p with e | ⟨x, l1, p1⟩
  · rfl
  · simp only
    rcases rdTab k l1 p1 with e | ⟨L, l2, p2⟩ <;> rfl
theorem preT_preT (a b : List Int) (r : Rs (List Int)) : preT a (preT b r) = preT (a ++ b) r := by
  rcases r with e | ⟨L, l, p⟩
  · rfl
  · simp [preT, List.append_assoc]
end Go.Proofs.YtbhniddgkdldlaaGreatDoor.Trx
namespace Go.Proofs.YtbhniddgkdldlaaGreatDoor
open Go.RowKit Trx
section
variable {R : Nat} {w : World} {A : Option Addr} {c : Nat} {bs : List UInt8} {p n : Nat}
/-- what labels leaves. -/
def LabP (R : Nat) (w : World) (A : Option Addr) (c : Nat) (bs : List UInt8) (n : Nat) : Rs (List Int) → Ending → World → Prop
  | .error er, e, w' => ∃ v, e = .returned (.tuple #[.slice none 0 0, v]) ∧ SpotIs w' v er.2 er.1 ∧ Kx (Only R) w w'
  | .ok (L, _, p'), e, w' => ∃ A' c', e = .returned (.tuple #[.slice A' L.length c', .nilIface]) ∧ L.length ≤ c' ∧ c' ≤ maxLen ∧ NewS (Win w.heap.size w') w' w'.heap.size A' (n64s L) ∧ Rdr R w' A c bs p' n ∧ Kx (Only R) w w'

/-- what holds at the head of each round: j labels were read. -/
def LbG (R : Nat) (w : World) (A : Option Addr) (c : Nat) (bs : List UInt8) (n M p1 Y : Nat) (i : Value) (wr : World) : Prop :=
  ∃ (j : Nat) (Lj : List Int) (pj : Nat), j ≤ M ∧ i = .int .i64 j ∧ Lj.length = j ∧ rdTab M (bs.drop p1) p1 = preT Lj (rdTab (M - j) (bs.drop pj) pj) ∧ Rdr R wr A c bs pj n ∧ Kx (Only R) w wr ∧
    (∀ i, wr.cell? ⟨Y, i, none⟩ = (n64s (Lj ++ List.replicate (M - j) 0))[i]?) ∧ (∀ i, wr.frozen? ⟨Y, i, none⟩ = false)
theorem set_next (Lj : List Int) (k : Nat) (x : Int) : (Lj ++ List.replicate (k + 1) 0).set Lj.length x = Lj ++ [x] ++ List.replicate k 0 := by
  simp [List.replicate_succ]
theorem no_spot {w : World} {Y sb so : Nat} {zs : List Int} {k : Int} (hY : ∀ i, w.cell? ⟨Y, i, none⟩ = (n64s zs)[i]?) (h : w.cell? ⟨sb, so + 1, none⟩ = some (.iface 32 (.int .i64 k))) : sb ≠ Y := fun e => by
  subst e
  rw [hY] at h
  simp [n64s] at h
theorem blk_lt {w : World} {b o : Nat} {vs : List Value} (h : w.cell? ⟨b, o, none⟩ = vs[o]?) (ho : o < vs.length) : b < w.heap.size := World.block_lt_of_cell? _ _ (h.trans (List.getElem?_eq_getElem ho))
set_option maxHeartbeats 4000000 in
set_option maxRecDepth 100000 in
theorem labels_any (h : Rdr R w A c bs p n) : Calls Tryz.prog 67 #[.pointer (some ⟨R, 0, none⟩)] w (LabP R w A c bs n (rdLab (bs.drop p) p)) := by
  have c1 := h.c1
  have hltR := h.lt
  unfold rdLab
  cases hr : rdInt (bs.drop p) p with
  | error er =>
    have HN := Lib.hid (number_err h er hr)
    clear h hr
    unfold LabP
    go_enter Tryz.func67, Tryz.ntmps67
    go_wp2_with (first | (go_at_call 65; (with_reducible refine HN.out.mono ?_); rintro e w1 ⟨v, rfl, ⟨sb, so, rfl, hs1, hs2⟩, hk⟩; have HS1 := Lib.hid hs1; have HS2 := Lib.hid hs2; have HK := Lib.hid hk; clear hs1 hs2 hk))
    go_ret2
    exact ⟨_, rfl, ⟨sb, so, rfl, HS1.out, HS2.out⟩, HK.out⟩
  | ok r =>
    obtain ⟨m, l1, p1⟩ := r
    obtain ⟨hm32, hadv⟩ := int_got hr
    obtain ⟨hl1, -, hp1⟩ := Adv.dropped hadv h.hp
    have hm0 := ((num32_iff _).1 hm32).1
    have hm1 := ((num32_iff _).1 hm32).2
    have HN := Lib.hid (number_ok h m l1 p1 hr)
    have HSp := Lib.hid (fun w => spot_any p 7 w)
    simp only
    by_cases hbig : 63 < m
    · rw [if_pos hbig]
      have tb : decide (64 ≤ m) = true := by simp; omega
      clear h hr hadv hl1 hm32
      unfold LabP
      go_enter Tryz.func67, Tryz.ntmps67
      go_wp2_with (first
        | (go_at_call 65; (with_reducible refine HN.out.mono ?_); rintro e w1 ⟨rfl, hr1, hk⟩; have HK := Lib.hid hk; clear hr1 hk)
        | (go_at_call 85; (with_reducible refine (HSp.out _).mono ?_); rintro e w2 ⟨v, rfl, hs, hb⟩; have HS := Lib.hid hs; have HB := Lib.hid hb; clear hs hb))
      go_ret2
      exact ⟨_, rfl, HS.out, HK.out.trans (.of_below HB.out)⟩
    · rw [if_neg hbig]
      have tb : decide (64 ≤ m) = false := by simp; omega
      subst hl1
      clear h hr hadv hm32
      obtain ⟨M, hM⟩ : ∃ M : Nat, M = m.toNat + 1 := ⟨_, rfl⟩
      have hMi : m + 1 = (M : Int) := by omega
      rw [← hM]
      have hM64 : M ≤ 64 := by omega
      have hmk : ∀ w, (Instr.makeSlice 47 (.int .i64 (m + 1)) (.int .i64 (m + 1))).run Tryz.prog w = .ok (.slice (some ⟨w.heap.size, 0, none⟩) M M) (w.alloc (.cells (madeCells #[.int .i64 0] M) 3)) := fun w => by
        rw [hMi]
        exact run_make_row' 47 3 (.int .i64 0) 8 Tryz.underlying47 (by kernel_rfl) rfl .i64 .i64 M (by omega) (by omega) w
      obtain ⟨P, hP⟩ : ∃ P, P = LabP R w A c bs n (rdTab M (bs.drop p1) p1) := ⟨_, rfl⟩
      rw [← hP]
      have HP := Lib.hid hP
      have HMi := Lib.hid hMi
      clear hP hMi hM
      go_enter Tryz.func67, Tryz.ntmps67
      go_wp2_with (first
        | (go_at_call 65; (with_reducible refine HN.out.mono ?_); rintro e w1 ⟨rfl, hr1, hk⟩; have HK := Lib.hid hk; have HR1 := Lib.hid hr1; have hltR1 := hr1.lt; have hsz := hk.size; clear hr1 hk))
      go_loopw [30] (fun i wr => LbG R w A c bs n M p1 w1.heap.size i wr) (fun i _ => M - (intOf i).toNat)
      case atStart =>
        refine ⟨0, [], p1, Nat.zero_le _, rfl, rfl, (preT_nil _).symm, HR1.out.later ((Below.refl _ _).alloc (Nat.le_refl _) _), HK.out.alloc _, fun i => ?_, fun i => World.frozen?_alloc_at _ _ _ _ rfl⟩
        rw [World.cell?_alloc_at _ _ _ _ rfl]
        by_cases hi : i < M
        · simp [madeCells, hi, n64s, Nat.mod_one]
        · simp [madeCells, hi, n64s]
      case round =>
        obtain ⟨j, Lj, pj, hj, rfl, hlj, htab, hrj, hkj, hY, hYf⟩ := hrel
        have hltj := hrj.lt
        have HRj := Lib.hid hrj
        have HKj := Lib.hid hkj
        have HY := Lib.hid hY
        have HYf := Lib.hid hYf
        have HT := Lib.hid htab
        have hRY : R < w1.heap.size := hltR1
        by_cases hlt : j < M
        · obtain ⟨k, hk⟩ : ∃ k, M - j = k + 1 := ⟨M - j - 1, by omega⟩
          have hYl : w1.heap.size < wr.heap.size := blk_lt (hY 0) (by simp; omega)
          have hts := tab_succ k (bs.drop pj) pj
          rw [← hk] at hts
          cases hrn : rdInt (bs.drop pj) pj with
          | error er =>
            rw [hrn] at hts
            have HNe := Lib.hid (number_err hrj er hrn)
            have HPe : Hid (P = LabP R w A c bs n (.error er)) := Lib.hid (by rw [HP.out, HT.out, hts]; rfl)
            clear hrj hkj hY hYf htab hts hrn
            have l0 : (j : Int) < (M : Int) := by omega
            go_wp2_with (first
              | (go_at_call 65; (with_reducible refine HNe.out.mono ?_); rintro e w2 ⟨v, rfl, ⟨sb, so, rfl, hs1, hs2⟩, hk2⟩; have q : w2.cell? ⟨w1.heap.size, j, none⟩ = some (.int .i64 0) := hk2.cell (by simp; omega) ((HY.out j).trans (by simp [n64s, hk, hlj])); have qf : w2.frozen? ⟨w1.heap.size, j, none⟩ = false := (hk2.frozen hYl (by simp; omega)).trans (HYf.out j); have hYl2 := Nat.lt_of_lt_of_le hYl hk2.size; have hsY : sb ≠ w1.heap.size := no_spot (zs := Lj ++ List.replicate (M - j) 0) (fun i => (World.cell?_of_block (hk2.block _ hYl (by simp; omega))).trans (HY.out i)) hs2; have HS1 := Lib.hid hs1; have HS2 := Lib.hid hs2; have HK2 := Lib.hid (HKj.out.trans hk2); clear hs1 hs2 hk2))
            rw [HPe.out]
            exact ⟨_, rfl, ⟨sb, so, rfl, cell_set_ne HS1.out hsY, cell_set_ne HS2.out hsY⟩, HK2.out.setCell (p := ⟨w1.heap.size, j, none⟩) (.inr hsz) _⟩
          | ok r =>
            obtain ⟨x, l2, p2⟩ := r
            rw [hrn] at hts
            obtain ⟨hx32, hadv⟩ := int_got hrn
            obtain ⟨hl2, -, -⟩ := Adv.dropped hadv hrj.hp
            subst hl2
            have HNe := Lib.hid (number_ok hrj x _ p2 hrn)
            have HT2 : Hid (rdTab M (bs.drop p1) p1 = preT (Lj ++ [x]) (rdTab k (bs.drop p2) p2)) := Lib.hid (by rw [HT.out, hts, preT_preT])
            clear hrj hkj hY hYf htab hts hrn hadv hx32
            have l0 : (j : Int) < (M : Int) := by omega
            go_wp2_with (first
              | (go_at_call 65; (with_reducible refine HNe.out.mono ?_); rintro e w2 ⟨rfl, hr2, hk2⟩; have q : w2.cell? ⟨w1.heap.size, j, none⟩ = some (.int .i64 0) := hk2.cell (by simp; omega) ((HY.out j).trans (by simp [n64s, hk, hlj])); have qf : w2.frozen? ⟨w1.heap.size, j, none⟩ = false := (hk2.frozen hYl (by simp; omega)).trans (HYf.out j); have hYl2 := Nat.lt_of_lt_of_le hYl hk2.size; have HY2 := Lib.hid (fun i => (World.cell?_of_block (a := ⟨w1.heap.size, i, none⟩) (hk2.block _ hYl (by simp; omega))).trans (HY.out i)); have HYf2 := Lib.hid (fun i => (hk2.frozen (o := i) hYl (by simp; omega)).trans (HYf.out i)); have HR2 := Lib.hid hr2; have HK2 := Lib.hid (HKj.out.trans hk2); clear hr2 hk2))
            go_roundw
            case rel =>
              have hMj : M - (j + 1) = k := by omega
              have hfin : LbG R w A c bs n M p1 w1.heap.size (.int .i64 ((j : Int) + 1)) (w2.setCell ⟨w1.heap.size, j, none⟩ (.int .i64 x)) := by
                refine ⟨j + 1, Lj ++ [x], p2, by omega, by simp, by simp [hlj], by rw [hMj]; exact HT2.out, HR2.out.setOther hRY _ _, HK2.out.setCell (p := ⟨w1.heap.size, j, none⟩) (.inr hsz) _, fun i => ?_, fun i => (World.frozen?_setCell _ _ _ _).trans (HYf2.out i)⟩
                rw [hMj, ← set_next, hlj]
                by_cases hij : i = j
                · subst hij
                  rw [World.cell?_setCell_same _ _ _ q, n64s, List.getElem?_map, List.getElem?_set_self (by simp; omega)]
                  rfl
                · rw [World.cell?_setCell_other _ _ _ _ (by intro e; injection e with _ e; omega), HY2.out i, hk]
                  simp [n64s, List.getElem?_set_ne (by omega : j ≠ i)]
              first | exact hfin | ((repeat apply Exists.intro); exact ⟨hfin, rfl⟩)
            case measure => simp [intOf]; omega
        · have hjM : j = M := by omega
          subst hjM
          have HPe : Hid (P = LabP R w A c bs n (.ok (Lj, bs.drop pj, pj))) := Lib.hid (by rw [HP.out, htab, Nat.sub_self]; simp [rdTab, preT])
          clear hrj hkj hY hYf htab
          go_wp2_with fail
          rw [HPe.out]
          have hYs := HY.out
          rw [Nat.sub_self] at hYs
          refine ⟨some ⟨w1.heap.size, 0, none⟩, j, by rw [hlj]; rfl, by omega, by unfold maxLen; omega, fun w' ha hne => ?_, HRj.out, HKj.out⟩
          have hpos : 0 < Lj.length := by
            rcases Nat.eq_zero_or_pos Lj.length with h0 | h0
            · exact absurd (by simp [List.eq_nil_of_length_eq_zero h0, n64s]) hne
            · exact h0
          have hYl : w1.heap.size < wr.heap.size := blk_lt (hYs 0) (by simp; omega)
          refine ⟨w1.heap.size, 0, rfl, hYl, fun i hi => ?_⟩
          rw [Nat.zero_add, ha _ _ ⟨hsz, hYl⟩, hYs i]
          simp
end
end Go.Proofs.YtbhniddgkdldlaaGreatDoor
