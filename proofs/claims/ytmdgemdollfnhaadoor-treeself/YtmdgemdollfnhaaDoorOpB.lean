/- Contracts of op.argType, gives, access. -/
import Derived.Test.YtmdgemdollfnhaaDoorOpA
namespace Go.Proofs.YtmdgemdollfnhaaDoor
open Go.RowKit

theorem nmB_list (b : Int) : (Opx.nmB b).data.toList = Opx.nm b := by simp [Opx.nmB]
theorem nm_short (b : Int) : (Opx.nm b).length ≤ 20 := by
  unfold Opx.nm
  split
  · rw [List.getD_eq_getElem?_getD]
    rcases Nat.lt_or_ge b.toNat Opx.tab.length with h | h
    · rw [List.getElem?_eq_getElem h]
      have := List.all_eq_true.1 Opx.short _ (List.getElem_mem h)
      simpa using this
    · rw [List.getElem?_eq_none h]; simp
  · simp
theorem nmB_size (b : Int) : (Opx.nmB b).size ≤ 20 := by
  rw [Lib.size_eq, nmB_list]; exact nm_short b
theorem ty_cases (n : List UInt8) : Opx.ty n = 1 ∨ Opx.ty n = 2 := by unfold Opx.ty; split <;> simp
theorem typeOf_nm (b : Int) (w : World) : Calls Tryd.prog 99 #[.string (Opx.nmB b)] w fun e w' => e = .returned (.int .i64 (Opx.ty (Opx.nm b))) ∧ w = w' := by
  have := typeOf_any (Opx.nmB b) w
  rwa [nmB_list] at this

set_option maxHeartbeats 4000000 in
set_option maxRecDepth 100000 in
theorem argType_any (b : Int) (w : World) :
    Calls Tryd.prog 102 #[.int .i64 b, .string (Opx.nmB b)] w fun e w' => e = .returned (.int .i64 (Opx.argTy b)) ∧ w = w' := by
  have HT := Lib.hid (fun w => typeOf_nm b w)
  have hc := ty_cases (Opx.nm b)
  by_cases c : b < 167
  · have e : Opx.argTy b = Opx.ty (Opx.nm b) := by simp [Opx.argTy, c]
    rw [e]
    have t : decide (b < 167) = true := by simpa using c
    clear e hc c
    go_enter Tryd.func102, Tryd.ntmps102
    go_wp2_with (go_at_call 99; refine (HT.out _).mono ?_; rintro e w' ⟨rfl, rfl⟩)
    go_ret
    exact ⟨rfl, rfl⟩
  · have e : Opx.argTy b = 3 - Opx.ty (Opx.nm b) := by simp [Opx.argTy, c]
    rw [e]
    have t : decide (b < 167) = false := by simpa using c
    obtain ⟨y, hy⟩ : ∃ y, y = Opx.ty (Opx.nm b) := ⟨_, rfl⟩
    rw [← hy] at hc HT ⊢
    clear e c hy
    rcases hc with rfl | rfl
    all_goals
      go_enter Tryd.func102, Tryd.ntmps102
      go_wp2_with (go_at_call 99; refine (HT.out _).mono ?_; rintro e w' ⟨rfl, rfl⟩)
      go_ret
      exact ⟨rfl, rfl⟩

set_option maxHeartbeats 4000000 in
set_option maxRecDepth 100000 in
theorem gives_any (b : Int) (w : World) :
    Calls Tryd.prog 94 #[.int .i64 b, .int .i64 (Opx.kd b), .string (Opx.nmB b)] w fun e w' => e = .returned (.int .i64 (Opx.gv b)) ∧ w = w' := by
  have HT := Lib.hid (fun w => typeOf_nm b w)
  by_cases c : Opx.kd b = 7 ∨ Opx.kd b = 10
  · have e : Opx.gv b = Opx.ty (Opx.nm b) := by simp [Opx.gv, c]
    rw [e]
    clear e
    rcases c with c | c
    all_goals
      rw [c]
      clear c
      go_enter Tryd.func94, Tryd.ntmps94
      go_wp2_with (go_at_call 99; refine (HT.out _).mono ?_; rintro e w' ⟨rfl, rfl⟩)
      go_ret
      exact ⟨rfl, rfl⟩
  by_cases c9 : Opx.kd b = 9
  · have e : Opx.gv b = 1 := by simp [Opx.gv, c9]
    rw [e, c9]
    clear e c9 c HT
    go_enter Tryd.func94, Tryd.ntmps94
    go_wp2
    go_ret
    exact ⟨rfl, rfl⟩
  by_cases c11 : Opx.kd b = 11
  · by_cases c90 : b ≤ 90
    · have e : Opx.gv b = 1 := by simp [Opx.gv, c11, c90]
      rw [e, c11]
      have t : decide (b ≤ 90) = true := by simpa using c90
      clear e c9 c HT c11 c90
      go_enter Tryd.func94, Tryd.ntmps94
      go_wp2
      go_ret
      exact ⟨rfl, rfl⟩
    · have e : Opx.gv b = Opx.ty (Opx.nm b) := by simp [Opx.gv, c11, c90]
      rw [e, c11]
      have t : decide (b ≤ 90) = false := by simpa using c90
      clear e c9 c c11 c90
      go_enter Tryd.func94, Tryd.ntmps94
      go_wp2_with (go_at_call 99; refine (HT.out _).mono ?_; rintro e w' ⟨rfl, rfl⟩)
      go_ret
      exact ⟨rfl, rfl⟩
  have e : Opx.gv b = 0 := by simp [Opx.gv, c, c9, c11]
  rw [e]
  obtain ⟨k, hk⟩ : ∃ k, k = Opx.kd b := ⟨_, rfl⟩
  rw [← hk] at c c9 c11 ⊢
  have t1 : (k == 7) = false := by simp; omega
  have t2 : (k == 10) = false := by simp; omega
  have t3 : (k == 9) = false := by simp; omega
  have t4 : (k == 11) = false := by simp; omega
  clear e hk c c9 c11 HT
  go_enter Tryd.func94, Tryd.ntmps94
  go_wp2
  go_ret
  exact ⟨rfl, rfl⟩

set_option maxHeartbeats 4000000 in
set_option maxRecDepth 100000 in
theorem access_any (b : Int) (w : World) (hN : Nam w) :
    Calls Tryd.prog 95 #[.string (Opx.nmB b)] w fun e w' => e = .returned (.int .i64 (Opx.acc (Opx.nm b))) ∧ ∃ n, w' = w.drewN n := by
  obtain ⟨m, hm⟩ := hN.some_
  have hsz := nmB_size b
  have HC := Lib.hid (Tryd.strings_Cut (Opx.nmB b) ⟨#[46]⟩ m w (by omega) hm)
  rw [nmB_list] at HC
  obtain ⟨wh, hwh⟩ : ∃ wh, wh = (Lib.cut (Opx.nm b) [46]).2.1 := ⟨_, rfl⟩
  have hl : wh.length ≤ 20 := by
    have := nm_short b
    rw [hwh]
    unfold Lib.cut
    split <;> simp <;> omega
  have hs2 : (⟨wh.toArray⟩ : ByteArray).size < 4294967281 := by rw [Lib.size_eq]; simp; omega
  have HB : ∀ (sub : List UInt8) (n : Nat), Calls Tryd.prog 104 #[.string ⟨wh.toArray⟩, .string ⟨sub.toArray⟩] (w.drewN n) fun e w' => e = .returned (.bool (Lib.contains wh sub)) ∧ w' = w.drewN n := fun sub n => by
    have := Tryd.strings_Contains ⟨wh.toArray⟩ ⟨sub.toArray⟩ m (w.drewN n) hs2 hm
    simpa using this
  have H8 := Lib.hid (fun n => HB [56] n)
  have H16 := Lib.hid (fun n => HB [49, 54] n)
  have H32 := Lib.hid (fun n => HB [51, 50] n)
  have HT := Lib.hid (fun w => typeOf_nm b w)
  have HY : Hid (Opx.ty (Opx.nm b) = 1 ∨ Opx.ty (Opx.nm b) = 2) := Lib.hid (ty_cases (Opx.nm b))
  have HA : Hid (Opx.acc (Opx.nm b) = if Lib.contains wh [56] then 1 else if Lib.contains wh [49, 54] then 2 else if Lib.contains wh [51, 50] then 4 else if Opx.ty (Opx.nm b) = 1 then 4 else 8) := Lib.hid (by simp [Opx.acc, hwh])
  clear HB hs2 hl hsz hm hN
  obtain ⟨x1, hx1⟩ : ∃ x, x = (Lib.cut (Opx.nm b) [46]).1 := ⟨_, rfl⟩
  obtain ⟨x3, hx3⟩ : ∃ x, x = (Lib.cut (Opx.nm b) [46]).2.2 := ⟨_, rfl⟩
  rw [← hwh, ← hx1, ← hx3] at HC
  clear hwh hx1 hx3
  by_cases c8 : Lib.contains wh [56] = true
  · have e : Opx.acc (Opx.nm b) = 1 := by rw [HA.out]; simp [c8]
    rw [e]
    rw [c8] at H8
    clear e HA HY H16 H32 HT c8
    go_enter Tryd.func95, Tryd.ntmps95
    go_wp2_with (first
      | (go_at_call 103; refine HC.out.mono ?_; rintro e w' ⟨rfl, n, rfl⟩)
      | (go_at_call 104; refine (H8.out _).mono ?_; rintro e w' ⟨rfl, rfl⟩))
    go_ret
    exact ⟨rfl, _, rfl⟩
  have c8' : Lib.contains wh [56] = false := by simpa using c8
  rw [c8'] at H8
  by_cases c16 : Lib.contains wh [49, 54] = true
  · have e : Opx.acc (Opx.nm b) = 2 := by rw [HA.out]; simp [c8', c16]
    rw [e]
    rw [c16] at H16
    clear e HA HY H32 c8 c8' c16
    go_enter Tryd.func95, Tryd.ntmps95
    go_wp2_with (first
      | (go_at_call 103; refine HC.out.mono ?_; rintro e w' ⟨rfl, n, rfl⟩)
      | (go_at_call 104; (first | with_reducible refine (H8.out _).mono ?_ | with_reducible refine (H16.out _).mono ?_); rintro e w' ⟨rfl, rfl⟩)
      | (go_at_call 99; refine (HT.out _).mono ?_; rintro e w' ⟨rfl, rfl⟩))
    go_ret
    exact ⟨rfl, _, rfl⟩
  have c16' : Lib.contains wh [49, 54] = false := by simpa using c16
  rw [c16'] at H16
  by_cases c32 : Lib.contains wh [51, 50] = true
  · have e : Opx.acc (Opx.nm b) = 4 := by rw [HA.out]; simp [c8', c16', c32]
    rw [e]
    rw [c32] at H32
    clear e HA HY c8 c8' c16 c16' c32
    go_enter Tryd.func95, Tryd.ntmps95
    go_wp2_with (first
      | (go_at_call 103; refine HC.out.mono ?_; rintro e w' ⟨rfl, n, rfl⟩)
      | (go_at_call 104; (first | with_reducible refine (H8.out _).mono ?_ | with_reducible refine (H16.out _).mono ?_ | with_reducible refine (H32.out _).mono ?_); rintro e w' ⟨rfl, rfl⟩)
      | (go_at_call 99; refine (HT.out _).mono ?_; rintro e w' ⟨rfl, rfl⟩))
    go_ret
    exact ⟨rfl, _, rfl⟩
  have c32' : Lib.contains wh [51, 50] = false := by simpa using c32
  rw [c32'] at H32
  rcases HY.out with y | y
  · have e : Opx.acc (Opx.nm b) = 4 := by rw [HA.out]; simp [c8', c16', c32', y]
    rw [e]
    rw [y] at HT
    clear e HA HY c8 c8' c16 c16' c32 c32' y
    go_enter Tryd.func95, Tryd.ntmps95
    go_wp2_with (first
      | (go_at_call 103; refine HC.out.mono ?_; rintro e w' ⟨rfl, n, rfl⟩)
      | (go_at_call 104; (first | with_reducible refine (H8.out _).mono ?_ | with_reducible refine (H16.out _).mono ?_ | with_reducible refine (H32.out _).mono ?_); rintro e w' ⟨rfl, rfl⟩)
      | (go_at_call 99; refine (HT.out _).mono ?_; rintro e w' ⟨rfl, rfl⟩))
    go_ret
    exact ⟨rfl, _, rfl⟩
  · have e : Opx.acc (Opx.nm b) = 8 := by rw [HA.out]; simp [c8', c16', c32', y]
    rw [e]
    rw [y] at HT
    clear e HA HY c8 c8' c16 c16' c32 c32' y
    go_enter Tryd.func95, Tryd.ntmps95
    go_wp2_with (first
      | (go_at_call 103; refine HC.out.mono ?_; rintro e w' ⟨rfl, n, rfl⟩)
      | (go_at_call 104; (first | with_reducible refine (H8.out _).mono ?_ | with_reducible refine (H16.out _).mono ?_ | with_reducible refine (H32.out _).mono ?_); rintro e w' ⟨rfl, rfl⟩)
      | (go_at_call 99; refine (HT.out _).mono ?_; rintro e w' ⟨rfl, rfl⟩))
    go_ret
    exact ⟨rfl, _, rfl⟩

end Go.Proofs.YtmdgemdollfnhaaDoor
