/- The walk of OpStays. -/
import Derived.Test.YtblmhlojbjhmnaaDoorOpH
namespace Go.Proofs.YtblmhlojbjhmnaaDoor
open Go.RowKit

theorem i64s_one (zs : List Int) : ∀ u ∈ i64s zs, u.oneCell' = true := by
  intro u hu
  simp only [i64s, List.mem_map] at hu
  obtain ⟨b, _, rfl⟩ := hu
  rfl
theorem own_below1 {w2 w3 : World} {o : Obj} {e : TypeId} {v : Value} {xs : List Value} (h : Own (w2.heap.size + 1) (w2.alloc o) w3 e v xs) : Below (w2.alloc o).heap.size (w2.alloc o) w3 := by simpa using h.below
theorem elem_int : Elem Tryd.prog 3 8 := Elem.mk_ (z := .int .i64 0) (by kernel_rfl) rfl
theorem own_emp (w : World) (o : Obj) : Own (w.heap.size + 1) (w.alloc o) ((w.alloc o).alloc (.cells #[] 3)) 3 (.slice (some ⟨w.heap.size + 1, 0, none⟩) 0 0) [] := by
  simpa using Own.empty (w.alloc o) 3

set_option maxHeartbeats 4000000 in
set_option maxRecDepth 100000 in
theorem Stays_err (b x : Int) (w : World) (hN : Nam w)
    (HL : Hid (∀ w1, Nam w1 → Calls Tryd.prog 8 #[.int .i64 b] w1 fun e w' => e = .returned (.tuple #[noV, .iface 31 (.int .i64 x)]) ∧ Below w1.heap.size w1 w')) :
    Calls Tryd.prog 6 #[.int .i64 b] w fun e w' => e = .returned (.bool true) ∧ Below w.heap.size w w' := by
  have HU := Lib.hid (up_any w hN)
  unfold noV at HL
  go_enter Tryd.func6, Tryd.ntmps6
  go_wp2_with fail
  with_reducible refine HU.out.mono ?_
  rintro e w1 ⟨rfl, hb1⟩
  go_wp2_with fail
  with_reducible refine (HL.out w1 (hN.below hb1)).mono ?_
  rintro e w2 ⟨rfl, hb2⟩
  have hb2' := hb1.trans (hb2.mono hb1.size)
  have hsz := hb2'.size
  clear hb1 hb2
  go_wp2_with (at_builtin; refine wpList_cat rfl _ _ _ rfl _ 8 Tryd.underlying23 elem_int (by decide) _ _ _ _ _ 0 none 0 0 [] rfl (own_emp w2 _) rfl Sl.nil_ rfl (by simp) (by simp) ?_; intro v3 w3 hown3)
  rw [List.append_nil] at hown3
  obtain ⟨A3, c3, hv3, -, -, -⟩ := hown3.form
  subst hv3
  simp only [List.length_nil]
  obtain ⟨hlt, k0, k1, k2, k3, k4, k5, k6, kf⟩ := seven (by simpa using hown3.below)
  have hb3 := hb2'.trans ((past_below (by simpa using hown3.below)).mono hsz)
  clear hown3
  go_wp2
  refine wp_loop_rounds 1 ?_
  rw [rounds_succ]
  go_wp2_with fail
  with_reducible refine (HL.out w3 (hN.below hb3)).mono ?_
  rintro e w4 ⟨rfl, hb4⟩
  have hb4' := hb3.trans (hb4.mono hb3.size)
  have hsz4 := hb4'.size
  clear hb4 hb3 hb2'
  go_wp2
  go_quiet (fail)
  go_wp2
  refine wp_loop_rounds 1 ?_
  rw [rounds_succ]
  go_wp2
  go_ret
  exact ⟨rfl, by have h := hb4'.alloc hsz4 (.cells #[.int .i64 0, .string ⟨#[]⟩, .int .i64 0, .slice none 0 0, .int .i64 0, .int .i64 0, .bool false] 25); exact ⟨h.os, h.tape, h.output, h.size, h.block⟩⟩

set_option maxHeartbeats 4000000 in
set_option maxRecDepth 100000 in
theorem Stays_none (b  k g y : Int) (nm : ByteArray) (s : Bool) (w : World) (hN : Nam w)
    (HL : Hid (∀ w1, Nam w1 → Calls Tryd.prog 8 #[.int .i64 b] w1 fun e w' => ∃ A c, e = .returned (.tuple #[.agg #[.int .i64 b, .string nm, .int .i64 k, .slice A 0 c, .int .i64 g, .int .i64 y, .bool s], .nilIface]) ∧ Own w1.heap.size w1 w' 3 (.slice A 0 c) (i64s []))) :
    Calls Tryd.prog 6 #[.int .i64 b] w fun e w' => e = .returned (.bool true) ∧ Below w.heap.size w w' := by
  have HU := Lib.hid (up_any w hN)
  go_enter Tryd.func6, Tryd.ntmps6
  go_wp2_with fail
  with_reducible refine HU.out.mono ?_
  rintro e w1 ⟨rfl, hb1⟩
  go_wp2_with fail
  with_reducible refine (HL.out w1 (hN.below hb1)).mono ?_
  rintro e w2 ⟨A1, c1, rfl, ho1⟩
  have hb2' := hb1.trans (ho1.below.mono hb1.size)
  have hz1 := hb1.size
  have hz2 := hb2'.size
  have hs1 : Sl ((w2.alloc (.cells #[.int .i64 b, .string nm, .int .i64 k, .slice A1 0 c1, .int .i64 g, .int .i64 y, .bool s] 25)).alloc (.cells #[] 3)) 0 A1 (i64s []) := Sl.nil_
  clear ho1 hb1
  go_wp2_with (at_builtin; refine wpList_cat rfl _ _ _ rfl _ 8 Tryd.underlying23 elem_int (by decide) _ _ _ _ _ _ A1 0 c1 (i64s []) rfl (own_emp w2 _) rfl hs1 rfl (i64s_one _) (by simp) ?_; intro v3 w3 hown3)
  rw [List.nil_append] at hown3
  obtain ⟨A3, c3, hv3, -, -, -⟩ := hown3.form
  subst hv3
  simp only [i64s, List.map_nil, List.length_nil]
  have hbb := own_below1 hown3
  obtain ⟨hlt, k0, k1, k2, k3, k4, k5, k6, kf⟩ := seven hbb
  have hb3 := hb2'.trans ((past_below hbb).mono hz2)
  clear hown3 hbb hs1
  go_wp2
  refine wp_loop_rounds 1 ?_
  rw [rounds_succ]
  go_wp2_with fail
  with_reducible refine (HL.out w3 (hN.below hb3)).mono ?_
  rintro e w4 ⟨A4, c4, rfl, ho4⟩
  have hb4' := hb3.trans (ho4.below.mono hb3.size)
  have hsz4 := hb4'.size
  clear ho4 hb3 hb2'
  go_wp2
  go_quiet (fail)
  go_wp2
  refine wp_loop_rounds 1 ?_
  rw [rounds_succ]
  go_wp2
  go_ret
  exact ⟨rfl, by have h := hb4'.alloc hsz4 (.cells #[.int .i64 b, .string nm, .int .i64 k, .slice A4 0 c4, .int .i64 g, .int .i64 y, .bool s] 25); exact ⟨h.os, h.tape, h.output, h.size, h.block⟩⟩

set_option maxHeartbeats 4000000 in
set_option maxRecDepth 100000 in
theorem Stays_one (b x k g y : Int) (nm : ByteArray) (s : Bool) (w : World) (hN : Nam w)
    (HL : Hid (∀ w1, Nam w1 → Calls Tryd.prog 8 #[.int .i64 b] w1 fun e w' => ∃ A c, e = .returned (.tuple #[.agg #[.int .i64 b, .string nm, .int .i64 k, .slice A 1 c, .int .i64 g, .int .i64 y, .bool s], .nilIface]) ∧ Own w1.heap.size w1 w' 3 (.slice A 1 c) (i64s [x]))) :
    Calls Tryd.prog 6 #[.int .i64 b] w fun e w' => e = .returned (.bool true) ∧ Below w.heap.size w w' := by
  have HU := Lib.hid (up_any w hN)
  have t1 : (x != x) = false := by simp
  go_enter Tryd.func6, Tryd.ntmps6
  go_wp2_with fail
  with_reducible refine HU.out.mono ?_
  rintro e w1 ⟨rfl, hb1⟩
  go_wp2_with fail
  with_reducible refine (HL.out w1 (hN.below hb1)).mono ?_
  rintro e w2 ⟨A1, c1, rfl, ho1⟩
  have hb2' := hb1.trans (ho1.below.mono hb1.size)
  have hz1 := hb1.size
  have hz2 := hb2'.size
  obtain ⟨g1, c1', hv1, hg1, hg2, hg3, hg4, hcell, hfro⟩ := ho1.at_ (by simp)
  injection hv1 with hv1 hv2 hv3
  subst hv1 hv3
  clear hv2
  have q0 := hcell 0 (by simp)
  have f0 := hfro 0
  simp [i64s] at q0
  have hs1 : Sl ((w2.alloc (.cells #[.int .i64 b, .string nm, .int .i64 k, .slice (some ⟨g1, 0, none⟩) 1 c1, .int .i64 g, .int .i64 y, .bool s] 25)).alloc (.cells #[] 3)) w2.heap.size (some ⟨g1, 0, none⟩) (i64s [x]) :=
    ho1.sl.below (((Below.refl _ _).alloc (Nat.le_refl _) _).alloc (by simp) _)
  clear ho1 hb1 hcell hfro hg3 hg4
  go_wp2_with (at_builtin; refine wpList_cat rfl _ _ _ rfl _ 8 Tryd.underlying23 elem_int (by decide) _ _ _ _ _ _ (some ⟨g1, 0, none⟩) 1 c1 (i64s [x]) rfl (own_emp w2 _) rfl hs1 rfl (i64s_one _) (by simp) ?_; intro v3 w3 hown3)
  rw [List.nil_append] at hown3
  obtain ⟨g3, c3, hv3, hh1, hh2, -, -, hcell3, -⟩ := hown3.at_ (by simp)
  subst hv3
  have p0 := hcell3 0 (by simp)
  simp [i64s] at p0
  simp only [i64s, List.map_cons, List.map_nil, List.length_cons, List.length_nil, Nat.zero_add, Nat.reduceAdd]
  have hbb := own_below1 hown3
  obtain ⟨hlt, k0, k1, k2, k3, k4, k5, k6, kf⟩ := seven hbb
  have hb3 := hb2'.trans ((past_below hbb).mono hz2)
  have r0 := ((past_below hbb).cell (p := ⟨g1, 0, none⟩) hg2).trans q0
  have rf0 := ((past_below hbb).frozen (p := ⟨g1, 0, none⟩) hg2).trans f0
  have hne : g1 ≠ w2.heap.size := by omega
  have hne3 : g3 ≠ g1 := by omega
  have k3' : (w3.setCell ⟨g1, 0, none⟩ (.int .i64 9)).cell? ⟨w2.heap.size, 3, none⟩ = some (.slice (some ⟨g1, 0, none⟩) 1 c1) := by
    rw [World.cell?_setCell_other _ _ _ _ (by simp <;> omega)]; exact k3
  obtain ⟨W, hW⟩ : ∃ W, W = (w3.setCell ⟨g1, 0, none⟩ (.int .i64 9)) := ⟨_, rfl⟩
  have hsW : W.heap.size = w3.heap.size := by rw [hW]; simp [World.setCell]
  have pW0 : W.cell? ⟨g3, 0, none⟩ = some (.int .i64 x) := by rw [hW, World.cell?_setCell_other _ _ _ _ (by simp <;> omega)]; exact p0
  have hbW : Below w.heap.size w W := by rw [hW]; exact hb3.setCell (p := ⟨g1, 0, none⟩) (by simp; omega) (.int .i64 9)
  have HW := Lib.hid hW
  clear hW hown3 hbb hs1 hcell3 k0 k1 k2 k4 k5 k6 kf q0 f0 hne hne3 hb3 p0
  go_wp2
  refine wp_loop_rounds 2 ?_
  rw [rounds_succ]
  go_wp2
  rw [rounds_succ]
  go_wp2_with fail
  rw [← HW.out]
  with_reducible refine (HL.out W (hN.below hbW)).mono ?_
  rintro e w4 ⟨A4, c4, rfl, ho4⟩
  obtain ⟨g4, c4', hv4, -, hl4, -, -, hcell4, -⟩ := ho4.at_ (by simp)
  injection hv4 with hv4 hv5 hv6
  subst hv4 hv6
  clear hv5
  have u0 := hcell4 0 (by simp)
  simp [i64s] at u0
  have y0 := (ho4.below.cell (p := ⟨g3, 0, none⟩) (by simp; omega)).trans pW0
  have hz4 := ho4.le
  have hl3 : g3 < w4.heap.size := by omega
  have hb4' := hbW.trans (ho4.below.mono hbW.size)
  have hsz4 := hb4'.size
  clear ho4 hb2' hcell4 hbW HW k3 k3' r0 rf0  pW0 hsW
  go_wp2
  go_quiet (fail)
  go_wp2
  refine wp_loop_rounds 2 ?_
  rw [rounds_succ]
  go_wp2
  go_quiet (fail)
  go_wp2
  rw [rounds_succ]
  go_wp2
  go_ret
  exact ⟨rfl, by have h := hb4'.alloc hsz4 (.cells #[.int .i64 b, .string nm, .int .i64 k, .slice (some ⟨g4, 0, none⟩) 1 c4, .int .i64 g, .int .i64 y, .bool s] 25); exact ⟨h.os, h.tape, h.output, h.size, h.block⟩⟩

set_option maxHeartbeats 4000000 in
set_option maxRecDepth 100000 in
theorem Stays_two (b x z k g y : Int) (nm : ByteArray) (s : Bool) (w : World) (hN : Nam w)
    (HL : Hid (∀ w1, Nam w1 → Calls Tryd.prog 8 #[.int .i64 b] w1 fun e w' => ∃ A c, e = .returned (.tuple #[.agg #[.int .i64 b, .string nm, .int .i64 k, .slice A 2 c, .int .i64 g, .int .i64 y, .bool s], .nilIface]) ∧ Own w1.heap.size w1 w' 3 (.slice A 2 c) (i64s [x, z]))) :
    Calls Tryd.prog 6 #[.int .i64 b] w fun e w' => e = .returned (.bool true) ∧ Below w.heap.size w w' := by
  have HU := Lib.hid (up_any w hN)
  have t1 : (x != x) = false := by simp
  have t2 : (z != z) = false := by simp
  go_enter Tryd.func6, Tryd.ntmps6
  go_wp2_with fail
  with_reducible refine HU.out.mono ?_
  rintro e w1 ⟨rfl, hb1⟩
  go_wp2_with fail
  with_reducible refine (HL.out w1 (hN.below hb1)).mono ?_
  rintro e w2 ⟨A1, c1, rfl, ho1⟩
  have hb2' := hb1.trans (ho1.below.mono hb1.size)
  have hz1 := hb1.size
  have hz2 := hb2'.size
  obtain ⟨g1, c1', hv1, hg1, hg2, hg3, hg4, hcell, hfro⟩ := ho1.at_ (by simp)
  injection hv1 with hv1 hv2 hv3
  subst hv1 hv3
  clear hv2
  have q0 := hcell 0 (by simp)
  have f0 := hfro 0
  simp [i64s] at q0
  have q1 := hcell 1 (by simp)
  have f1 := hfro 1
  simp [i64s] at q1
  have hs1 : Sl ((w2.alloc (.cells #[.int .i64 b, .string nm, .int .i64 k, .slice (some ⟨g1, 0, none⟩) 2 c1, .int .i64 g, .int .i64 y, .bool s] 25)).alloc (.cells #[] 3)) w2.heap.size (some ⟨g1, 0, none⟩) (i64s [x, z]) :=
    ho1.sl.below (((Below.refl _ _).alloc (Nat.le_refl _) _).alloc (by simp) _)
  clear ho1 hb1 hcell hfro hg3 hg4
  go_wp2_with (at_builtin; refine wpList_cat rfl _ _ _ rfl _ 8 Tryd.underlying23 elem_int (by decide) _ _ _ _ _ _ (some ⟨g1, 0, none⟩) 2 c1 (i64s [x, z]) rfl (own_emp w2 _) rfl hs1 rfl (i64s_one _) (by simp) ?_; intro v3 w3 hown3)
  rw [List.nil_append] at hown3
  obtain ⟨g3, c3, hv3, hh1, hh2, -, -, hcell3, -⟩ := hown3.at_ (by simp)
  subst hv3
  have p0 := hcell3 0 (by simp)
  simp [i64s] at p0
  have p1 := hcell3 1 (by simp)
  simp [i64s] at p1
  simp only [i64s, List.map_cons, List.map_nil, List.length_cons, List.length_nil, Nat.zero_add, Nat.reduceAdd]
  have hbb := own_below1 hown3
  obtain ⟨hlt, k0, k1, k2, k3, k4, k5, k6, kf⟩ := seven hbb
  have hb3 := hb2'.trans ((past_below hbb).mono hz2)
  have r0 := ((past_below hbb).cell (p := ⟨g1, 0, none⟩) hg2).trans q0
  have rf0 := ((past_below hbb).frozen (p := ⟨g1, 0, none⟩) hg2).trans f0
  have r1 := ((past_below hbb).cell (p := ⟨g1, 1, none⟩) hg2).trans q1
  have rf1 := ((past_below hbb).frozen (p := ⟨g1, 1, none⟩) hg2).trans f1
  have hne : g1 ≠ w2.heap.size := by omega
  have hne3 : g3 ≠ g1 := by omega
  have k3' : (w3.setCell ⟨g1, 0, none⟩ (.int .i64 9)).cell? ⟨w2.heap.size, 3, none⟩ = some (.slice (some ⟨g1, 0, none⟩) 2 c1) := by
    rw [World.cell?_setCell_other _ _ _ _ (by simp <;> omega)]; exact k3
  have k3'' : ((w3.setCell ⟨g1, 0, none⟩ (.int .i64 9)).setCell ⟨g1, 1, none⟩ (.int .i64 9)).cell? ⟨w2.heap.size, 3, none⟩ = some (.slice (some ⟨g1, 0, none⟩) 2 c1) := by
    rw [World.cell?_setCell_other _ _ _ _ (by simp <;> omega)]; exact k3'
  have r1' : (w3.setCell ⟨g1, 0, none⟩ (.int .i64 9)).cell? ⟨g1, 1, none⟩ = some (.int .i64 z) := by
    rw [World.cell?_setCell_other _ _ _ _ (by simp)]; exact r1
  have rf1' : (w3.setCell ⟨g1, 0, none⟩ (.int .i64 9)).frozen? ⟨g1, 1, none⟩ = false := (World.frozen?_setCell _ _ _ _).trans rf1
  obtain ⟨W, hW⟩ : ∃ W, W = ((w3.setCell ⟨g1, 0, none⟩ (.int .i64 9)).setCell ⟨g1, 1, none⟩ (.int .i64 9)) := ⟨_, rfl⟩
  have hsW : W.heap.size = w3.heap.size := by rw [hW]; simp [World.setCell]
  have pW0 : W.cell? ⟨g3, 0, none⟩ = some (.int .i64 x) := by rw [hW, World.cell?_setCell_other _ _ _ _ (by simp <;> omega), World.cell?_setCell_other _ _ _ _ (by simp <;> omega)]; exact p0
  have pW1 : W.cell? ⟨g3, 1, none⟩ = some (.int .i64 z) := by rw [hW, World.cell?_setCell_other _ _ _ _ (by simp <;> omega), World.cell?_setCell_other _ _ _ _ (by simp <;> omega)]; exact p1
  have hbW : Below w.heap.size w W := by rw [hW]; exact (hb3.setCell (p := ⟨g1, 0, none⟩) (by simp; omega) (.int .i64 9)).setCell (p := ⟨g1, 1, none⟩) (by simp; omega) (.int .i64 9)
  have HW := Lib.hid hW
  clear hW hown3 hbb hs1 hcell3 k0 k1 k2 k4 k5 k6 kf q0 f0 hne hne3 hb3 p0 q1 f1 p1
  go_wp2
  refine wp_loop_rounds 3 ?_
  rw [rounds_succ]
  go_wp2
  rw [rounds_succ]
  go_wp2
  rw [rounds_succ]
  go_wp2_with fail
  rw [← HW.out]
  with_reducible refine (HL.out W (hN.below hbW)).mono ?_
  rintro e w4 ⟨A4, c4, rfl, ho4⟩
  obtain ⟨g4, c4', hv4, -, hl4, -, -, hcell4, -⟩ := ho4.at_ (by simp)
  injection hv4 with hv4 hv5 hv6
  subst hv4 hv6
  clear hv5
  have u0 := hcell4 0 (by simp)
  simp [i64s] at u0
  have y0 := (ho4.below.cell (p := ⟨g3, 0, none⟩) (by simp; omega)).trans pW0
  have u1 := hcell4 1 (by simp)
  simp [i64s] at u1
  have y1 := (ho4.below.cell (p := ⟨g3, 1, none⟩) (by simp; omega)).trans pW1
  have hz4 := ho4.le
  have hl3 : g3 < w4.heap.size := by omega
  have hb4' := hbW.trans (ho4.below.mono hbW.size)
  have hsz4 := hb4'.size
  clear ho4 hb2' hcell4 hbW HW k3 k3' r0 rf0 k3'' r1 rf1 r1' rf1' pW1 pW0 hsW
  go_wp2
  go_quiet (fail)
  go_wp2
  refine wp_loop_rounds 3 ?_
  rw [rounds_succ]
  go_wp2
  go_quiet (fail)
  go_wp2
  rw [rounds_succ]
  go_wp2
  go_quiet (fail)
  go_wp2
  rw [rounds_succ]
  go_wp2
  go_ret
  exact ⟨rfl, by have h := hb4'.alloc hsz4 (.cells #[.int .i64 b, .string nm, .int .i64 k, .slice (some ⟨g4, 0, none⟩) 2 c4, .int .i64 g, .int .i64 y, .bool s] 25); exact ⟨h.os, h.tape, h.output, h.size, h.block⟩⟩

theorem walk_OpStays (b : Int) (w : World) (hb : (Lit.int .i64 b).wf = true) (hN : Nam w) :
    Calls Tryd.prog 6 #[.int .i64 b] w fun e w' => e = .returned (.bool true) ∧ Below w.heap.size w w' := by
  have hbd := bounds_i64 hb
  by_cases hn : Opx.nm b = []
  · rcases hf : Opx.flt b with _ | _
    · exact Stays_err b 5 w hN (Lib.hid fun w1 h1 => Look_none b w1 h1 (by omega) (by omega) hf hn)
    · exact Stays_err b 3 w hN (Lib.hid fun w1 _ => Look_flt b w1 hf)
  · have hL := fun w1 (h1 : Nam w1) => Look_op b w1 h1 hn (op_not_flt b hn)
    have hts := tk_short b
    unfold opV at hL
    generalize Opx.tk b = zs at hL hts
    rcases zs with _ | ⟨x, _ | ⟨z, _ | ⟨u, zs⟩⟩⟩
    · exact Stays_none b _ _ _ _ _ w hN (Lib.hid hL)
    · exact Stays_one b x _ _ _ _ _ w hN (Lib.hid hL)
    · exact Stays_two b x z _ _ _ _ _ w hN (Lib.hid hL)
    · simp at hts

end Go.Proofs.YtblmhlojbjhmnaaDoor
