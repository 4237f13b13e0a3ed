/- Contracts of op.argType, gives, access. -/
import Derived.Test.YtbhniddgkdldlaaGreatDoorOpA
import Derived.Test.YtbhniddgkdldlaaGreatDoorOwn
set_option linter.unusedVariables false
set_option linter.unusedSimpArgs false
namespace Go.Proofs.YtbhniddgkdldlaaGreatDoor
open Go.RowKit

theorem nmB_list (b : Int) : (Opx.nmB b).data.toList = Opx.nm b := by simp [Opx.nmB]
theorem nm_short (b : Int) : (Opx.nm b).length ≤ 20 := by
  unfold Opx.nm
  split
  · rw [List.getD_eq_getElem?_getD]
    rcases Nat.lt_or_ge b.toNat Opx.tab.length with h | h
    · rw [List.getElem?_eq_getElem h]
      have := List.all_eq_true.1 Opx.short _ (List.getElem_mem h)
      simpa using this
    · rw [List.getElem?_eq_none h]; simp
  · simp
theorem nmB_size (b : Int) : (Opx.nmB b).size ≤ 20 := by
  rw [Lib.size_eq, nmB_list]; exact nm_short b
theorem ty_cases (n : List UInt8) : Opx.ty n = 1 ∨ Opx.ty n = 2 := by unfold Opx.ty; split <;> simp
theorem typeOf_nm (b : Int) (w : World) : Calls Tryz.prog 100 #[.string (Opx.nmB b)] w fun e w' => e = .returned (.int .i64 (Opx.ty (Opx.nm b))) ∧ w = w' := by
  have := typeOf_any (Opx.nmB b) w
  rwa [nmB_list] at this

set_option maxHeartbeats 4000000 in
set_option maxRecDepth 100000 in
theorem argType_any (b : Int) (w : World) :
    Calls Tryz.prog 103 #[.int .i64 b, .string (Opx.nmB b)] w fun e w' => e = .returned (.int .i64 (Opx.argTy b)) ∧ w = w' := by
  have HT := Lib.hid (fun w => typeOf_nm b w)
  have hc := ty_cases (Opx.nm b)
  by_cases c : b < 167
  · have e : Opx.argTy b = Opx.ty (Opx.nm b) := by simp [Opx.argTy, c]
    rw [e]
    have t : decide (b < 167) = true := by simpa using c
    clear e hc c
    go_enter Tryz.func103, Tryz.ntmps103
    go_wp2_with (go_at_call 100; refine (HT.out _).mono ?_; rintro e w' ⟨rfl, rfl⟩)
    go_ret
    exact ⟨rfl, rfl⟩
  · have e : Opx.argTy b = 3 - Opx.ty (Opx.nm b) := by simp [Opx.argTy, c]
    rw [e]
    have t : decide (b < 167) = false := by simpa using c
    obtain ⟨y, hy⟩ : ∃ y, y = Opx.ty (Opx.nm b) := ⟨_, rfl⟩
    rw [← hy] at hc HT ⊢
    clear e c hy
    rcases hc with rfl | rfl
    all_goals
      go_enter Tryz.func103, Tryz.ntmps103
      go_wp2_with (go_at_call 100; refine (HT.out _).mono ?_; rintro e w' ⟨rfl, rfl⟩)
      go_ret
      exact ⟨rfl, rfl⟩

set_option maxHeartbeats 4000000 in
set_option maxRecDepth 100000 in
theorem gives_any (b : Int) (w : World) :
    Calls Tryz.prog 92 #[.int .i64 b, .int .i64 (Opx.kd b), .string (Opx.nmB b)] w fun e w' => e = .returned (.int .i64 (Opx.gv b)) ∧ w = w' := by
  have HT := Lib.hid (fun w => typeOf_nm b w)
  by_cases c : Opx.kd b = 7 ∨ Opx.kd b = 10
  · have e : Opx.gv b = Opx.ty (Opx.nm b) := by simp [Opx.gv, c]
    rw [e]
    clear e
    rcases c with c | c
    all_goals
      rw [c]
      clear c
      go_enter Tryz.func92, Tryz.ntmps92
      go_wp2_with (go_at_call 100; refine (HT.out _).mono ?_; rintro e w' ⟨rfl, rfl⟩)
      go_ret
      exact ⟨rfl, rfl⟩
  by_cases c9 : Opx.kd b = 9
  · have e : Opx.gv b = 1 := by simp [Opx.gv, c9]
    rw [e, c9]
    clear e c9 c HT
    go_enter Tryz.func92, Tryz.ntmps92
    go_wp2
    go_ret
    exact ⟨rfl, rfl⟩
  by_cases c11 : Opx.kd b = 11
  · by_cases c90 : b ≤ 90
    · have e : Opx.gv b = 1 := by simp [Opx.gv, c11, c90]
      rw [e, c11]
      have t : decide (b ≤ 90) = true := by simpa using c90
      clear e c9 c HT c11 c90
      go_enter Tryz.func92, Tryz.ntmps92
      go_wp2
      go_ret
      exact ⟨rfl, rfl⟩
    · have e : Opx.gv b = Opx.ty (Opx.nm b) := by simp [Opx.gv, c11, c90]
      rw [e, c11]
      have t : decide (b ≤ 90) = false := by simpa using c90
      clear e c9 c c11 c90
      go_enter Tryz.func92, Tryz.ntmps92
      go_wp2_with (go_at_call 100; refine (HT.out _).mono ?_; rintro e w' ⟨rfl, rfl⟩)
      go_ret
      exact ⟨rfl, rfl⟩
  have e : Opx.gv b = 0 := by simp [Opx.gv, c, c9, c11]
  rw [e]
  obtain ⟨k, hk⟩ : ∃ k, k = Opx.kd b := ⟨_, rfl⟩
  rw [← hk] at c c9 c11 ⊢
  have t1 : (k == 7) = false := by simp; omega
  have t2 : (k == 10) = false := by simp; omega
  have t3 : (k == 9) = false := by simp; omega
  have t4 : (k == 11) = false := by simp; omega
  clear e hk c c9 c11 HT
  go_enter Tryz.func92, Tryz.ntmps92
  go_wp2
  go_ret
  exact ⟨rfl, rfl⟩

set_option maxHeartbeats 4000000 in
set_option maxRecDepth 100000 in
theorem access_any (b : Int) (w : World) (hN : Nam w) :
    Calls Tryz.prog 93 #[.string (Opx.nmB b)] w fun e w' => e = .returned (.int .i64 (Opx.acc (Opx.nm b))) ∧ ∃ n, w' = w.drewN n := by
  obtain ⟨m, hm⟩ := hN.some_
  have hsz := nmB_size b
  have HC := Lib.hid (Tryz.strings_Cut (Opx.nmB b) ⟨#[46]⟩ m w (by omega) hm)
  rw [nmB_list] at HC
  obtain ⟨wh, hwh⟩ : ∃ wh, wh = (Lib.cut (Opx.nm b) [46]).2.1 := ⟨_, rfl⟩
  have hl : wh.length ≤ 20 := by
    have := nm_short b
    rw [hwh]
    unfold Lib.cut
    split <;> simp <;> omega
  have hs2 : (⟨wh.toArray⟩ : ByteArray).size < 4294967281 := by rw [Lib.size_eq]; simp; omega
  have HB : ∀ (sub : List UInt8) (n : Nat), Calls Tryz.prog 105 #[.string ⟨wh.toArray⟩, .string ⟨sub.toArray⟩] (w.drewN n) fun e w' => e = .returned (.bool (Lib.contains wh sub)) ∧ w' = w.drewN n := fun sub n => by
    have := Tryz.strings_Contains ⟨wh.toArray⟩ ⟨sub.toArray⟩ m (w.drewN n) hs2 hm
    simpa using this
  have H8 := Lib.hid (fun n => HB [56] n)
  have H16 := Lib.hid (fun n => HB [49, 54] n)
  have H32 := Lib.hid (fun n => HB [51, 50] n)
  have HT := Lib.hid (fun w => typeOf_nm b w)
  have HY : Hid (Opx.ty (Opx.nm b) = 1 ∨ Opx.ty (Opx.nm b) = 2) := Lib.hid (ty_cases (Opx.nm b))
  have HA : Hid (Opx.acc (Opx.nm b) = if Lib.contains wh [56] then 1 else if Lib.contains wh [49, 54] then 2 else if Lib.contains wh [51, 50] then 4 else if Opx.ty (Opx.nm b) = 1 then 4 else 8) := Lib.hid (by simp [Opx.acc, hwh])
  clear HB hs2 hl hsz hm hN
  obtain ⟨x1, hx1⟩ : ∃ x, x = (Lib.cut (Opx.nm b) [46]).1 := ⟨_, rfl⟩
  obtain ⟨x3, hx3⟩ : ∃ x, x = (Lib.cut (Opx.nm b) [46]).2.2 := ⟨_, rfl⟩
  rw [← hwh, ← hx1, ← hx3] at HC
  clear hwh hx1 hx3
  by_cases c8 : Lib.contains wh [56] = true
  · have e : Opx.acc (Opx.nm b) = 1 := by rw [HA.out]; simp [c8]
    rw [e]
    rw [c8] at H8
    clear e HA HY H16 H32 HT c8
    go_enter Tryz.func93, Tryz.ntmps93
    go_wp2_with (first
      | (go_at_call 104; refine HC.out.mono ?_; rintro e w' ⟨rfl, n, rfl⟩)
      | (go_at_call 105; refine (H8.out _).mono ?_; rintro e w' ⟨rfl, rfl⟩))
    go_ret
    exact ⟨rfl, _, rfl⟩
  have c8' : Lib.contains wh [56] = false := by simpa using c8
  rw [c8'] at H8
  by_cases c16 : Lib.contains wh [49, 54] = true
  · have e : Opx.acc (Opx.nm b) = 2 := by rw [HA.out]; simp [c8', c16]
    rw [e]
    rw [c16] at H16
    clear e HA HY H32 c8 c8' c16
    go_enter Tryz.func93, Tryz.ntmps93
    go_wp2_with (first
      | (go_at_call 104; refine HC.out.mono ?_; rintro e w' ⟨rfl, n, rfl⟩)
      | (go_at_call 105; (first | with_reducible refine (H8.out _).mono ?_ | with_reducible refine (H16.out _).mono ?_); rintro e w' ⟨rfl, rfl⟩)
      | (go_at_call 100; refine (HT.out _).mono ?_; rintro e w' ⟨rfl, rfl⟩))
    go_ret
    exact ⟨rfl, _, rfl⟩
  have c16' : Lib.contains wh [49, 54] = false := by simpa using c16
  rw [c16'] at H16
  by_cases c32 : Lib.contains wh [51, 50] = true
  · have e : Opx.acc (Opx.nm b) = 4 := by rw [HA.out]; simp [c8', c16', c32]
    rw [e]
    rw [c32] at H32
    clear e HA HY c8 c8' c16 c16' c32
    go_enter Tryz.func93, Tryz.ntmps93
    go_wp2_with (first
      | (go_at_call 104; refine HC.out.mono ?_; rintro e w' ⟨rfl, n, rfl⟩)
      | (go_at_call 105; (first | with_reducible refine (H8.out _).mono ?_ | with_reducible refine (H16.out _).mono ?_ | with_reducible refine (H32.out _).mono ?_); rintro e w' ⟨rfl, rfl⟩)
      | (go_at_call 100; refine (HT.out _).mono ?_; rintro e w' ⟨rfl, rfl⟩))
    go_ret
    exact ⟨rfl, _, rfl⟩
  have c32' : Lib.contains wh [51, 50] = false := by simpa using c32
  rw [c32'] at H32
  rcases HY.out with y | y
  · have e : Opx.acc (Opx.nm b) = 4 := by rw [HA.out]; simp [c8', c16', c32', y]
    rw [e]
    rw [y] at HT
    clear e HA HY c8 c8' c16 c16' c32 c32' y
    go_enter Tryz.func93, Tryz.ntmps93
    go_wp2_with (first
      | (go_at_call 104; refine HC.out.mono ?_; rintro e w' ⟨rfl, n, rfl⟩)
      | (go_at_call 105; (first | with_reducible refine (H8.out _).mono ?_ | with_reducible refine (H16.out _).mono ?_ | with_reducible refine (H32.out _).mono ?_); rintro e w' ⟨rfl, rfl⟩)
      | (go_at_call 100; refine (HT.out _).mono ?_; rintro e w' ⟨rfl, rfl⟩))
    go_ret
    exact ⟨rfl, _, rfl⟩
  · have e : Opx.acc (Opx.nm b) = 8 := by rw [HA.out]; simp [c8', c16', c32', y]
    rw [e]
    rw [y] at HT
    clear e HA HY c8 c8' c16 c16' c32 c32' y
    go_enter Tryz.func93, Tryz.ntmps93
    go_wp2_with (first
      | (go_at_call 104; refine HC.out.mono ?_; rintro e w' ⟨rfl, n, rfl⟩)
      | (go_at_call 105; (first | with_reducible refine (H8.out _).mono ?_ | with_reducible refine (H16.out _).mono ?_ | with_reducible refine (H32.out _).mono ?_); rintro e w' ⟨rfl, rfl⟩)
      | (go_at_call 100; refine (HT.out _).mono ?_; rintro e w' ⟨rfl, rfl⟩))
    go_ret
    exact ⟨rfl, _, rfl⟩

end Go.Proofs.YtbhniddgkdldlaaGreatDoor

/- Contract of slices.Repeat at a list of one number, once or twice. -/
namespace Go.Proofs.YtbhniddgkdldlaaGreatDoor
open Go.RowKit

/-- numbers as cells. -/
def i64s (zs : List Int) : List Value := zs.map (Value.int .i64)
theorem i64s_get (zs : List Int) (i : Nat) (h : i < zs.length) : (i64s zs)[i]? = some (.int .i64 (zs[i])) := by simp [i64s, h]
@[simp] theorem i64s_length (zs : List Int) : (i64s zs).length = zs.length := by simp [i64s]

theorem Mul_lit (n : Nat) (w : World) (hn : n < 3) : Calls Tryz.prog 109 #[.int .u64 1, .int .u64 (n : Int)] w fun e w' => e = .returned (.tuple #[.int .u64 0, .int .u64 (n : Int)]) ∧ w' = w := by
  have := Tryz.bits_Mul 1 n (by decide) (by omega) w
  have e1 : 1 * n / 18446744073709551616 = 0 := by omega
  have e2 : 1 * n % 18446744073709551616 = n := by omega
  rw [e1, e2] at this
  exact this

theorem mk1 (w : World) : (Instr.makeSlice 47 (.int .i64 1) (.int .i64 1)).run Tryz.prog w = .ok (.slice (some ⟨w.heap.size, 0, none⟩) 1 1) (w.alloc (.cells #[.int .i64 0] 3)) := by kernel_rfl
theorem mk2 (w : World) : (Instr.makeSlice 47 (.int .i64 2) (.int .i64 2)).run Tryz.prog w = .ok (.slice (some ⟨w.heap.size, 0, none⟩) 2 2) (w.alloc (.cells #[.int .i64 0, .int .i64 0] 3)) := by kernel_rfl

theorem int_one : (Tryz.prog.info? 3).map (·.size) = some 1 := by kernel_rfl
theorem cp1 (w : World) (g : Nat) (t : Int) (hg : g < w.heap.size) (hc : w.cell? ⟨g, 0, none⟩ = some (.int .i64 t)) :
    (Builtin.copy_ #[47, 47] 3 #[.slice (some ⟨w.heap.size, 0, none⟩) 1 1, .slice (some ⟨g, 0, none⟩) 1 1]).run Tryz.prog (w.alloc (.cells #[.int .i64 0] 3)) = .ok (.int .i64 1) (w.alloc (.cells #[.int .i64 t] 3)) := by
  have h := run_copy_cells (P := Tryz.prog) (w.alloc (.cells #[.int .i64 0] 3)) 47 47 3 3 w.heap.size 0 1 1 ⟨g, 0, none⟩ 1 1 [.int .i64 t] Tryz.underlying47 int_one rfl
    (by intro j v hj; match j, hj with | 0, hj => simp at hj; subst hj; rw [show (⟨g, 0, none⟩ : Addr).add 0 = ⟨g, 0, none⟩ by rfl, World.cell?_alloc_past _ _ _ hg, hc] | j + 1, hj => simp at hj)
    (by intro j hj; simp at hj; subst hj; rw [World.cell?_alloc_at _ _ _ _ rfl]; rfl)
    (by intro j hj; rw [World.frozen?_alloc_at _ _ _ _ rfl]) (by intro v hv; simp at hv; subst hv; rfl)
  rw [h]
  simp only [World.setCells]
  rw [World.setCell_alloc_at _ _ _ _ _ rfl]
  rfl
theorem cp2 (w : World) (g : Nat) (t : Int) (hg : g < w.heap.size) (hc : w.cell? ⟨g, 0, none⟩ = some (.int .i64 t)) :
    (Builtin.copy_ #[47, 47] 3 #[.slice (some ⟨w.heap.size, 0, none⟩) 2 2, .slice (some ⟨g, 0, none⟩) 1 1]).run Tryz.prog (w.alloc (.cells #[.int .i64 0, .int .i64 0] 3)) = .ok (.int .i64 1) (w.alloc (.cells #[.int .i64 t, .int .i64 0] 3)) := by
  have h := run_copy_cells (P := Tryz.prog) (w.alloc (.cells #[.int .i64 0, .int .i64 0] 3)) 47 47 3 3 w.heap.size 0 2 2 ⟨g, 0, none⟩ 1 1 [.int .i64 t] Tryz.underlying47 int_one rfl
    (by intro j v hj; match j, hj with | 0, hj => simp at hj; subst hj; rw [show (⟨g, 0, none⟩ : Addr).add 0 = ⟨g, 0, none⟩ by rfl, World.cell?_alloc_past _ _ _ hg, hc] | j + 1, hj => simp at hj)
    (by intro j hj; simp at hj; subst hj; rw [World.cell?_alloc_at _ _ _ _ rfl]; rfl)
    (by intro j hj; rw [World.frozen?_alloc_at _ _ _ _ rfl]) (by intro v hv; simp at hv; subst hv; rfl)
  rw [h]
  simp only [World.setCells]
  rw [World.setCell_alloc_at _ _ _ _ _ rfl]
  rfl
theorem cp3 (w : World) (t : Int) :
    (Builtin.copy_ #[47, 47] 3 #[.slice (some ⟨w.heap.size, 1, none⟩) 1 1, .slice (some ⟨w.heap.size, 0, none⟩) 1 2]).run Tryz.prog (w.alloc (.cells #[.int .i64 t, .int .i64 0] 3)) = .ok (.int .i64 1) (w.alloc (.cells #[.int .i64 t, .int .i64 t] 3)) := by
  have h := run_copy_cells (P := Tryz.prog) (w.alloc (.cells #[.int .i64 t, .int .i64 0] 3)) 47 47 3 3 w.heap.size 1 1 1 ⟨w.heap.size, 0, none⟩ 1 2 [.int .i64 t] Tryz.underlying47 int_one rfl
    (by intro j v hj; match j, hj with | 0, hj => simp at hj; subst hj; rw [show (⟨w.heap.size, 0, none⟩ : Addr).add 0 = ⟨w.heap.size, 0, none⟩ by rfl, World.cell?_alloc_at _ _ _ _ rfl]; rfl | j + 1, hj => simp at hj)
    (by intro j hj; simp at hj; subst hj; rw [World.cell?_alloc_at _ _ _ _ rfl]; rfl)
    (by intro j hj; rw [World.frozen?_alloc_at _ _ _ _ rfl]) (by intro v hv; simp at hv; subst hv; rfl)
  rw [h]
  simp only [World.setCells]
  rw [World.setCell_alloc_at _ _ _ _ _ rfl]
  rfl

set_option maxHeartbeats 4000000 in
set_option maxRecDepth 100000 in
theorem Repeat_one (t : Int) (g : Nat) (w : World) (hg : g < w.heap.size) (hc : w.cell? ⟨g, 0, none⟩ = some (.int .i64 t)) :
    Calls Tryz.prog 102 #[.slice (some ⟨g, 0, none⟩) 1 1, .int .i64 1] w fun e w' => ∃ v, e = .returned v ∧ Own w.heap.size w w' 3 v (i64s [t]) := by
  have HM := Lib.hid (fun w => Mul_lit 1 w (by decide))
  have hmk := mk1
  have hcp := cp1 w g t hg hc
  have HO := Lib.hid (Own.lit w #[.int .i64 t] 3 (by unfold maxLen; simp))
  clear hc hg
  go_enter Tryz.func102, Tryz.ntmps102
  go_wp2_with (go_at_call 109; refine (HM.out _).mono ?_; rintro e w' ⟨rfl, hw⟩; subst hw)
  refine wp_loop_rounds 1 ?_
  rw [rounds_succ]
  go_wp2
  go_ret
  exact ⟨_, rfl, HO.out⟩

set_option maxHeartbeats 4000000 in
set_option maxRecDepth 100000 in
theorem Repeat_two (t : Int) (g : Nat) (w : World) (hg : g < w.heap.size) (hc : w.cell? ⟨g, 0, none⟩ = some (.int .i64 t)) :
    Calls Tryz.prog 102 #[.slice (some ⟨g, 0, none⟩) 1 1, .int .i64 2] w fun e w' => ∃ v, e = .returned v ∧ Own w.heap.size w w' 3 v (i64s [t, t]) := by
  have HM := Lib.hid (fun w => Mul_lit 2 w (by decide))
  have hmk := mk2
  have hcp := cp2 w g t hg hc
  have hcq : (Builtin.copy_ #[47, 47] 3 #[.slice (some ⟨w.heap.size, 1, none⟩) 1 1, .slice (some ⟨w.heap.size, 0, none⟩) 1 2]).run Tryz.prog (w.alloc (.cells #[.int .i64 t, .int .i64 0] 3)).drew = .ok (.int .i64 1) (w.alloc (.cells #[.int .i64 t, .int .i64 t] 3)).drew := cp3 w.drew t
  have HO := Lib.hid (Own.lit w #[.int .i64 t, .int .i64 t] 3 (by unfold maxLen; simp))
  clear hc hg
  go_enter Tryz.func102, Tryz.ntmps102
  go_wp2_with (go_at_call 109; refine (HM.out _).mono ?_; rintro e w' ⟨rfl, hw⟩; subst hw)
  refine wp_loop_rounds 2 ?_
  rw [rounds_succ]
  go_wp2
  go_region
  go_wp2
  rw [rounds_succ]
  go_wp2
  go_ret
  exact ⟨_, rfl, HO.out.drewN 1⟩

end Go.Proofs.YtbhniddgkdldlaaGreatDoor

/- Contracts of op.takes, op.whole: of every byte that has a name. -/
namespace Go.Proofs.YtbhniddgkdldlaaGreatDoor
open Go.RowKit

/-- a byte that has a name. -/
def IsOp (b : Int) : Prop := ∃ j : Nat, b = j ∧ j < 174 ∧ Opx.nm b ≠ []
theorem isOp_many (b : Int) (h : IsOp b) (hk : Opx.kd b = 11) : Num.many b = 1 ∨ Num.many b = 2 := by
  obtain ⟨j, rfl, hj, hn⟩ := h
  have := List.all_eq_true.1 Opx.num_many j (by simpa using hj)
  simp [hk, hn] at this
  exact this

set_option maxHeartbeats 4000000 in
set_option maxRecDepth 100000 in
theorem takes_any (b : Int) (w : World) (h : IsOp b) :
    Calls Tryz.prog 91 #[.int .i64 b, .int .i64 (Opx.kd b), .string (Opx.nmB b)] w fun e w' => ∃ v, e = .returned v ∧ Own w.heap.size w w' 3 v (i64s (Opx.tk b)) := by
  have h0 : 0 ≤ b ∧ b < 174 := by obtain ⟨j, rfl, hj, _⟩ := h; omega
  by_cases c7 : Opx.kd b = 7
  · have e : Opx.tk b = [1] := by simp [Opx.tk, c7]
    rw [e, c7]
    have HO := Lib.hid (Own.lit w #[.int .i64 1] 3 (by unfold maxLen; simp))
    clear e c7 h h0
    go_enter Tryz.func91, Tryz.ntmps91
    go_wp2
    go_ret
    exact ⟨_, rfl, HO.out⟩
  by_cases c8 : Opx.kd b = 8
  · have e : Opx.tk b = [1, Opx.ty (Opx.nm b)] := by simp [Opx.tk, c8]
    rw [e, c8]
    have HT := Lib.hid (typeOf_nm b w)
    have HO := Lib.hid (Own.lit w #[.int .i64 1, .int .i64 (Opx.ty (Opx.nm b))] 3 (by unfold maxLen; simp))
    clear e c7 c8 h h0
    go_enter Tryz.func91, Tryz.ntmps91
    go_wp2_with (go_at_call 100; refine HT.out.mono ?_; rintro e w' ⟨rfl, rfl⟩)
    go_ret
    exact ⟨_, rfl, HO.out⟩
  by_cases c11 : Opx.kd b = 11
  · have hm := isOp_many b h c11
    have HA := Lib.hid (Args_any b w (by omega) (by omega))
    have HG := Lib.hid (argType_any b w)
    rw [c11]
    obtain ⟨t, ht⟩ : ∃ t, t = Opx.argTy b := ⟨_, rfl⟩
    rw [← ht] at HG
    have hcell : (w.alloc (.cells #[.int .i64 t] 3)).cell? ⟨w.heap.size, 0, none⟩ = some (.int .i64 t) := by rw [World.cell?_alloc_at _ _ _ _ rfl]; rfl
    have hlt : w.heap.size < (w.alloc (.cells #[.int .i64 t] 3)).heap.size := by simp
    have HB : Hid (∀ (v : Value) (w' : World) (zs : List Value), Own (w.alloc (.cells #[.int .i64 t] 3)).heap.size (w.alloc (.cells #[.int .i64 t] 3)) w' 3 v zs → Own w.heap.size w w' 3 v zs) := Lib.hid (fun v w' zs ho => by
      refine ⟨?_, ?_, Nat.le_trans (Nat.le_of_lt hlt) ho.le⟩
      · refine ⟨ho.row.1, ?_⟩
        rcases ho.row.2 with hx | ⟨g, cap, cur, h1, h2, h3⟩
        · exact .inl hx
        · exact .inr ⟨g, cap, cur, h1, by omega, h3⟩
      · exact ((Below.refl w.heap.size w).alloc (Nat.le_refl _) _).trans (ho.below.mono (Nat.le_of_lt hlt)))
    rcases hm with hm | hm
    · have e : Opx.tk b = [t] := by
        have : Opx.many b = 1 := hm
        simp [Opx.tk, c11, this, ht]
      rw [e]
      have HR := Lib.hid (Repeat_one t w.heap.size _ hlt hcell)
      simp only [argsR, hm] at HA
      clear e c7 c8 h h0 c11 hm ht hcell hlt
      go_enter Tryz.func91, Tryz.ntmps91
      go_wp2_with (first
        | (go_at_call 101; refine HA.out.mono ?_; rintro e w' ⟨rfl, rfl⟩)
        | (go_at_call 103; refine HG.out.mono ?_; rintro e w' ⟨rfl, rfl⟩)
        | (go_at_call 102; refine HR.out.mono ?_; rintro e w' ⟨v, rfl, ho⟩))
      go_ret
      exact ⟨_, rfl, HB.out _ _ _ ho⟩
    · have e : Opx.tk b = [t, t] := by
        have : Opx.many b = 2 := hm
        simp [Opx.tk, c11, this, ht]
      rw [e]
      have HR := Lib.hid (Repeat_two t w.heap.size _ hlt hcell)
      simp only [argsR, hm] at HA
      clear e c7 c8 h h0 c11 hm ht hcell hlt
      go_enter Tryz.func91, Tryz.ntmps91
      go_wp2_with (first
        | (go_at_call 101; refine HA.out.mono ?_; rintro e w' ⟨rfl, rfl⟩)
        | (go_at_call 103; refine HG.out.mono ?_; rintro e w' ⟨rfl, rfl⟩)
        | (go_at_call 102; refine HR.out.mono ?_; rintro e w' ⟨v, rfl, ho⟩))
      go_ret
      exact ⟨_, rfl, HB.out _ _ _ ho⟩
  obtain ⟨k, hk⟩ : ∃ k, k = Opx.kd b := ⟨_, rfl⟩
  rw [← hk] at c7 c8 c11 ⊢
  have t1 : (k == 7) = false := by simp; omega
  have t2 : (k == 8) = false := by simp; omega
  have t3 : (k == 11) = false := by simp; omega
  by_cases c : b = 4 ∨ b = 13 ∨ b = 14 ∨ b = 17 ∨ b = 27 ∨ b = 64
  · have e : Opx.tk b = [1] := by simp [Opx.tk, ← hk, c7, c8, c11, c]
    rw [e]
    have HO := Lib.hid (Own.lit w #[.int .i64 1] 3 (by unfold maxLen; simp))
    clear e c7 c8 c11 h h0 hk
    rcases c with rfl | rfl | rfl | rfl | rfl | rfl
    all_goals
      go_enter Tryz.func91, Tryz.ntmps91
      go_wp2
      go_ret
      exact ⟨_, rfl, HO.out⟩
  have e : Opx.tk b = [] := by simp [Opx.tk, ← hk, c7, c8, c11, c]
  rw [e]
  have HO := Lib.hid (Own.nil_ (B := w.heap.size) w w 3 (Below.refl _ _) (Nat.le_refl _))
  have s1 : (b == 4) = false := by simp; omega
  have s2 : (b == 13) = false := by simp; omega
  have s3 : (b == 14) = false := by simp; omega
  have s4 : (b == 17) = false := by simp; omega
  have s5 : (b == 27) = false := by simp; omega
  have s6 : (b == 64) = false := by simp; omega
  clear e c7 c8 c11 h h0 hk c
  go_enter Tryz.func91, Tryz.ntmps91
  go_wp2
  go_ret
  exact ⟨_, rfl, HO.out⟩

end Go.Proofs.YtbhniddgkdldlaaGreatDoor

/- Contracts of op.whole: of every byte that has a name. -/
namespace Go.Proofs.YtbhniddgkdldlaaGreatDoor
open Go.RowKit

section
variable {n B : Nat} {w00 w0 w w' : World} {e : TypeId} {v : Value} {xs : List Value}
/-- a row of the call's own, past the call's own result cell in block n. -/
structure Kep (n : Nat) (w00 w : World) (e : TypeId) (v : Value) (xs : List Value) : Prop where
  row : w.ownsRow (n + 1) e 1 v xs.length xs
  below : Below n w00 w
  le : n + 1 ≤ w.heap.size
theorem row_other {m : Nat} (h : w.ownsRow (n + 1) e 1 v m xs) (hk : ∀ g, n + 1 ≤ g → g < w.heap.size → w'.heap[g]? = w.heap[g]?) : w'.ownsRow (n + 1) e 1 v m xs := by
  refine ⟨h.1, ?_⟩
  rcases h.2 with hx | ⟨g, cap, cur, h1, h2, h3, h4⟩
  · exact .inl hx
  · refine .inr ⟨g, cap, cur, h1, h2, ?_, h4⟩
    have hlt : g < w.heap.size := by
      rcases Nat.lt_or_ge g w.heap.size with h5 | h5
      · exact h5
      · rw [Array.getElem?_eq_none h5] at h3; cases h3
    rw [hk g h2 hlt]; exact h3
theorem Kep.setCell (h : Kep n w00 w e v xs) (i : Nat) (u : Value) : Kep n w00 (w.setCell ⟨n, i, none⟩ u) e v xs :=
  ⟨row_other h.row fun g h1 _ => Below.heap_setCell _ _ _ _ (by simp; omega), h.below.setCell (Nat.le_refl _) u, by have := h.le; simpa [World.setCell] using this⟩
theorem Kep.alloc (h : Kep n w00 w e v xs) (o : Obj) : Kep n w00 (w.alloc o) e v xs :=
  ⟨row_other h.row fun g _ h2 => Below.heap_alloc _ _ _ h2, h.below.alloc (by have := h.le; omega) o, by have := h.le; simp; omega⟩
theorem Kep.drewN (h : Kep n w00 w e v xs) (k : Nat) : Kep n w00 (w.drewN k) e v xs := ⟨h.row, ⟨h.below.os, h.below.tape, h.below.output, h.below.size, h.below.block⟩, h.le⟩
theorem Kep.two (h : Kep n w00 w e v xs) (o : Obj) (q i j : Nat) (a b : Value) : Kep n w00 ((((w.alloc o).drewN q).setCell ⟨w.heap.size, i, none⟩ a).setCell ⟨w.heap.size, j, none⟩ b) e v xs := by
  have hl := h.le
  refine ⟨row_other h.row fun g _ h2 => ?_, (((h.alloc o).drewN q).below.setCell (by simp; omega) a).setCell (by simp; omega) b, by simp [World.setCell]; omega⟩
  rw [Below.heap_setCell _ _ _ _ (by simp; omega), Below.heap_setCell _ _ _ _ (by simp; omega)]
  exact Below.heap_alloc _ _ _ h2
theorem Kep.own (h : Kep n w00 w e v xs) : Own n w00 w e v xs := by
  refine ⟨⟨h.row.1, ?_⟩, h.below, by have := h.le; omega⟩
  rcases h.row.2 with hx | ⟨g, cap, cur, h1, h2, h3⟩
  · exact .inl hx
  · exact .inr ⟨g, cap, cur, h1, by omega, h3⟩
theorem seven {a0 a1 a2 a3 a4 a5 a6 : Value} {t : TypeId} (h : Below (w0.alloc (.cells #[a0, a1, a2, a3, a4, a5, a6] t)).heap.size (w0.alloc (.cells #[a0, a1, a2, a3, a4, a5, a6] t)) w) :
    (w0.heap.size < w.heap.size) ∧ (w.cell? ⟨w0.heap.size, 0, none⟩ = some a0) ∧ (w.cell? ⟨w0.heap.size, 1, none⟩ = some a1) ∧ (w.cell? ⟨w0.heap.size, 2, none⟩ = some a2) ∧ (w.cell? ⟨w0.heap.size, 3, none⟩ = some a3) ∧
    (w.cell? ⟨w0.heap.size, 4, none⟩ = some a4) ∧ (w.cell? ⟨w0.heap.size, 5, none⟩ = some a5) ∧ (w.cell? ⟨w0.heap.size, 6, none⟩ = some a6) ∧ (∀ i, w.frozen? ⟨w0.heap.size, i, none⟩ = false) := by
  have hc : ∀ i, w.cell? ⟨w0.heap.size, i, none⟩ = (#[a0, a1, a2, a3, a4, a5, a6] : Array Value)[i]? := fun i => (h.cell (p := ⟨w0.heap.size, i, none⟩) (by simp)).trans (World.cell?_alloc_at _ _ _ _ rfl)
  exact ⟨by have := h.size; simp at this; omega, hc 0, hc 1, hc 2, hc 3, hc 4, hc 5, hc 6, fun i => (h.frozen (p := ⟨w0.heap.size, i, none⟩) (by simp)).trans (World.frozen?_alloc_at _ _ _ _ rfl)⟩
theorem Own.kep {o : Obj} (h : Own (w0.alloc o).heap.size (w0.alloc o) w e v xs) : Kep w0.heap.size w0 w e v xs :=
  ⟨by simpa using h.row, ((Below.refl _ _).alloc (Nat.le_refl _) o).trans (h.below.mono (by simp)), by have := h.le; simpa using this⟩
theorem Nam.below (h : Nam w) (hb : Below w.heap.size w w') : Nam w' := by
  obtain ⟨m, hm⟩ := h.some_
  exact ⟨fun j hj => (hb.cell (p := ⟨_, j, none⟩) (World.block_lt_of_cell? _ _ (h.names j hj))).trans (h.names j hj),
    fun j hj => (hb.cell (p := ⟨_, j, none⟩) (World.block_lt_of_cell? _ _ (h.numbers j hj))).trans (h.numbers j hj),
    m, (hb.cell (p := ⟨_, 0, none⟩) (World.block_lt_of_cell? _ _ hm)).trans hm⟩
theorem Nam.alloc (h : Nam w) (o : Obj) : Nam (w.alloc o) := h.below ((Below.refl _ _).alloc (Nat.le_refl _) o)
end

/-- the value of an operation. -/
def opV (b : Int) (v : Value) : Value := .agg #[.int .i64 b, .string (Opx.nmB b), .int .i64 (Opx.kd b), v, .int .i64 (Opx.gv b), .int .i64 (Opx.by_ b), .bool (Opx.sn b)]
/-- the value of no operation. -/
def noV : Value := .agg #[.int .i64 0, .string ⟨#[]⟩, .int .i64 0, .slice none 0 0, .int .i64 0, .int .i64 0, .bool false]

set_option maxHeartbeats 4000000 in
set_option maxRecDepth 100000 in
theorem whole_any (b : Int) (w : World) (h : IsOp b) (hN : Nam w) :
    Calls Tryz.prog 77 #[.int .i64 b] w fun e w' => ∃ v, e = .returned (opV b v) ∧ Own w.heap.size w w' 3 v (i64s (Opx.tk b)) := by
  have h0 : 0 ≤ b ∧ b < 174 := by obtain ⟨j, rfl, hj, _⟩ := h; omega
  have HN := Lib.hid (fun o => nameOf_any b (w.alloc o) (hN.alloc o) (by omega) (by omega))
  have HK := Lib.hid (fun w => kindOf_any b w)
  have HT := Lib.hid (fun o => takes_any b (w.alloc o) h)
  have HG := Lib.hid (fun w => gives_any b w)
  by_cases c : Opx.kd b = 7 ∨ Opx.kd b = 8
  · have e1 : Opx.by_ b = Opx.acc (Opx.nm b) := by simp [Opx.by_, c]
    have e2 : Opx.sn b = Lib.hasSuffix (Opx.nm b) [95, 115] := by simp [Opx.sn, c]
    unfold opV
    rw [e1, e2]
    have hsz := nmB_size b
    have HS := Lib.hid (fun w => Tryz.strings_HasSuffix (Opx.nmB b) ⟨#[95, 115]⟩ w (by omega))
    simp only [nmB_list] at HS
    have HA : Hid (∀ w2 o, Below w.heap.size w w2 → w.heap.size ≤ w2.heap.size → Calls Tryz.prog 93 #[.string (Opx.nmB b)] (w2.alloc o) fun e w' => e = .returned (.int .i64 (Opx.acc (Opx.nm b))) ∧ ∃ n, w' = (w2.alloc o).drewN n) :=
      Lib.hid (fun w2 o hb hl => access_any b (w2.alloc o) (hN.below (hb.alloc hl o)))
    obtain ⟨k, hk⟩ : ∃ k, k = Opx.kd b := ⟨_, rfl⟩
    rw [← hk] at c HK HT HG ⊢
    clear e1 e2 h0 h hN hsz hk
    rcases c with rfl | rfl
    all_goals
      go_enter Tryz.func77, Tryz.ntmps77
      go_wp2_with (first
        | (go_at_call 76; refine (HN.out _).mono ?_; rintro e w' ⟨rfl, rfl⟩)
        | (go_at_call 90; refine (HK.out _).mono ?_; rintro e w' ⟨rfl, rfl⟩)
        | (go_at_call 91; refine (HT.out _).mono ?_; rintro e w' ⟨v, rfl, ho⟩; obtain ⟨A, c, rfl, -, -, -⟩ := ho.form; obtain ⟨hlt, k0, k1, k2, k3, k4, k5, k6, kf⟩ := seven ho.below; have hk := Lib.hid ho.kep; simp only [i64s_length] at hk ⊢; clear ho)
        | (go_at_call 92; refine (HG.out _).mono ?_; rintro e w' ⟨rfl, rfl⟩)
        | (go_at_call 93; refine (HA.out _ _ hk.out.below (Nat.le_of_lt hlt)).mono ?_; rintro e w' ⟨rfl, q, rfl⟩)
        | (go_at_call 94; refine (HS.out _).mono ?_; rintro e w' ⟨rfl, rfl⟩))
      refine bodyPost_ret (v := .agg #[.int .i64 b, .string (Opx.nmB b), .int .i64 _, .slice A (Opx.tk b).length c, .int .i64 (Opx.gv b), .int .i64 (Opx.acc (Opx.nm b)), .bool (Lib.hasSuffix (Opx.nm b) [95, 115])]) (by simp [results, Tryz.results77, go_sem, k0, k1, k2, k3, k4, k5, k6, hlt]; rfl) rfl ?_
      exact ⟨_, rfl, ((((((((hk.out.two _ q _ _ _ _).setCell 0 _).setCell 1 _).setCell 2 _).setCell 3 _).setCell 4 _).setCell 5 _).setCell 6 _).own⟩
  · have e1 : Opx.by_ b = 0 := by simp [Opx.by_, c]
    have e2 : Opx.sn b = false := by simp [Opx.sn, c]
    unfold opV
    rw [e1, e2]
    have t1 : (Opx.kd b == 7) = false := by simp; omega
    have t2 : (Opx.kd b == 8) = false := by simp; omega
    clear e1 e2 c h0 h hN
    go_enter Tryz.func77, Tryz.ntmps77
    go_wp2_with (first
      | (go_at_call 76; refine (HN.out _).mono ?_; rintro e w' ⟨rfl, rfl⟩)
      | (go_at_call 90; refine (HK.out _).mono ?_; rintro e w' ⟨rfl, rfl⟩)
      | (go_at_call 91; refine (HT.out _).mono ?_; rintro e w' ⟨v, rfl, ho⟩; obtain ⟨A, c, rfl, -, -, -⟩ := ho.form; obtain ⟨hlt, k0, k1, k2, k3, k4, k5, k6, kf⟩ := seven ho.below; have hk := Lib.hid ho.kep; simp only [i64s_length] at hk ⊢; clear ho)
      | (go_at_call 92; refine (HG.out _).mono ?_; rintro e w' ⟨rfl, rfl⟩))
    refine bodyPost_ret (v := .agg #[.int .i64 b, .string (Opx.nmB b), .int .i64 (Opx.kd b), .slice A (Opx.tk b).length c, .int .i64 (Opx.gv b), .int .i64 0, .bool false]) (by simp [results, Tryz.results77, go_sem, k0, k1, k2, k3, k4, k5, k6, hlt]) rfl ?_
    exact ⟨_, rfl, ((((((((hk.out.setCell 0 _).setCell 1 _).setCell 2 _).setCell 3 _).setCell 4 _).setCell 5 _).setCell 6 _).alloc _).own⟩

theorem nmB_empty (b : Int) : (Opx.nmB b).toList.isEmpty = (Opx.nm b).isEmpty := by
  rw [Lib.toList_data, nmB_list]

set_option maxHeartbeats 4000000 in
set_option maxRecDepth 100000 in
theorem Look_flt (b : Int) (w : World) (h : Opx.flt b = true) :
    Calls Tryz.prog 50 #[.int .i64 b] w fun e w' => e = .returned (.tuple #[noV, .iface 32 (.int .i64 3)]) ∧ Below w.heap.size w w' := by
  have HF := Lib.hid (fun w => isFloat_any b w)
  rw [h] at HF
  unfold noV
  go_enter Tryz.func50, Tryz.ntmps50
  go_wp2_with (go_at_call 75; refine (HF.out _).mono ?_; rintro e w' ⟨rfl, rfl⟩)
  refine bodyPost_ret (v := .tuple #[noV, .iface 32 (.int .i64 3)]) (by simp [results, Tryz.results50, go_sem, noV]) rfl ?_
  exact ⟨rfl, (Below.refl _ _).alloc (Nat.le_refl _) _⟩

set_option maxHeartbeats 4000000 in
set_option maxRecDepth 100000 in
theorem Look_none (b : Int) (w : World) (hN : Nam w) (h0 : -9223372036854775808 ≤ b) (h1 : b ≤ 9223372036854775807) (h : Opx.flt b = false) (hn : Opx.nm b = []) :
    Calls Tryz.prog 50 #[.int .i64 b] w fun e w' => e = .returned (.tuple #[noV, .iface 32 (.int .i64 5)]) ∧ Below w.heap.size w w' := by
  have HF := Lib.hid (fun w => isFloat_any b w)
  rw [h] at HF
  have HN := Lib.hid (fun o => nameOf_any b (w.alloc o) (hN.alloc o) h0 h1)
  have e : Opx.nmB b = ⟨#[]⟩ := by simp [Opx.nmB, hn]
  rw [e] at HN
  unfold noV
  clear e hn h hN
  go_enter Tryz.func50, Tryz.ntmps50
  go_wp2_with (first
    | (go_at_call 75; refine (HF.out _).mono ?_; rintro e w' ⟨rfl, rfl⟩)
    | (go_at_call 76; refine (HN.out _).mono ?_; rintro e w' ⟨rfl, rfl⟩))
  refine bodyPost_ret (v := .tuple #[noV, .iface 32 (.int .i64 5)]) (by simp [results, Tryz.results50, go_sem, noV]) rfl ?_
  exact ⟨rfl, (Below.refl _ _).alloc (Nat.le_refl _) _⟩

theorem isOp_of (b : Int) (hn : Opx.nm b ≠ []) : IsOp b := by
  have h0 : 0 ≤ b := by
    rcases Int.lt_or_le b 0 with h | h
    · exact absurd (by simp [Opx.nm]; omega) hn
    · exact h
  obtain ⟨j, rfl⟩ := Int.eq_ofNat_of_zero_le h0
  refine ⟨j, rfl, ?_, hn⟩
  rcases Nat.lt_or_ge j 174 with h | h
  · exact h
  · refine absurd ?_ hn
    simp only [Opx.nm, Int.toNat_natCast]
    rw [if_pos h0, List.getD_eq_getElem?_getD, List.getElem?_eq_none (by rw [show Opx.tab.length = 174 by rfl]; exact h)]
    rfl

set_option maxHeartbeats 4000000 in
set_option maxRecDepth 100000 in
theorem Look_op (b : Int) (w : World) (hN : Nam w) (hn : Opx.nm b ≠ []) (h : Opx.flt b = false) :
    Calls Tryz.prog 50 #[.int .i64 b] w fun e w' => ∃ A c, e = .returned (.tuple #[opV b (.slice A (Opx.tk b).length c), .nilIface]) ∧ Own w.heap.size w w' 3 (.slice A (Opx.tk b).length c) (i64s (Opx.tk b)) := by
  have hop := isOp_of b hn
  have h0 : 0 ≤ b ∧ b < 174 := by obtain ⟨j, rfl, hj, _⟩ := hop; omega
  have HF := Lib.hid (fun w => isFloat_any b w)
  rw [h] at HF
  have HN := Lib.hid (fun o => nameOf_any b (w.alloc o) (hN.alloc o) (by omega) (by omega))
  have HW := Lib.hid (fun o => whole_any b (w.alloc o) hop (hN.alloc o))
  have t : (Opx.nmB b).toList.isEmpty = false := by rw [nmB_empty]; cases hq : Opx.nm b <;> simp_all
  unfold opV at HW ⊢
  clear hop h hn hN h0
  go_enter Tryz.func50, Tryz.ntmps50
  go_wp2_with (first
    | (go_at_call 75; refine (HF.out _).mono ?_; rintro e w' ⟨rfl, rfl⟩)
    | (go_at_call 76; refine (HN.out _).mono ?_; rintro e w' ⟨rfl, rfl⟩)
    | (go_at_call 77; refine (HW.out _).mono ?_; rintro e w' ⟨v, rfl, ho⟩; obtain ⟨A, c, rfl, -, -, -⟩ := ho.form; obtain ⟨hlt, k0, k1, k2, k3, k4, k5, k6, kf⟩ := seven ho.below; have hk := Lib.hid ho.kep; simp only [i64s_length] at hk ⊢; clear ho))
  refine bodyPost_ret (v := .tuple #[.agg #[.int .i64 b, .string (Opx.nmB b), .int .i64 (Opx.kd b), .slice A (Opx.tk b).length c, .int .i64 (Opx.gv b), .int .i64 (Opx.by_ b), .bool (Opx.sn b)], .nilIface]) (by simp [results, Tryz.results50, go_sem, k0, k1, k2, k3, k4, k5, k6, hlt]) rfl ?_
  exact ⟨_, _, rfl, (((((((hk.out.setCell 0 _).setCell 1 _).setCell 2 _).setCell 3 _).setCell 4 _).setCell 5 _).setCell 6 _).own⟩

end Go.Proofs.YtbhniddgkdldlaaGreatDoor
