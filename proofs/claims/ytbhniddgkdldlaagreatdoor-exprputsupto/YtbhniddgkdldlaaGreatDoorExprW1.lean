/- The walk of ExprPuts: it returns true, whatever the input; nothing that was there changes. -/
import Derived.Test.YtbhniddgkdldlaaGreatDoorExprUp
import Derived.Test.YtbhniddgkdldlaaGreatDoorExprQ
import Derived.Test.YtbhniddgkdldlaaGreatDoorTreeH0
import Derived.Test.YtbhniddgkdldlaaGreatDoorTreeA
set_option linter.unusedVariables false
set_option linter.unusedSimpArgs false
namespace Go.Proofs.YtbhniddgkdldlaaGreatDoor
open Go.RowKit Trx

theorem cnt_small (f : Fo) (h : wt f ≤ 1048576) : wrap64 (cnt f : Int) = (cnt f : Int) := by
  have := cnt_le_wt f
  unfold wrap64
  omega
set_option maxHeartbeats 4000000 in
set_option maxRecDepth 100000 in
theorem walk_ExprPuts (A : Option Addr) (c : Nat) (f : Fo) (w : World) (hr : RdS w w.heap.size A f) (hl : len f ≤ c) (hm : c ≤ maxLen) (hwt : wt f ≤ 1048576) (hN : Nam w) (hE : Et w) :
    Calls Tryz.prog 3 #[.slice A (len f) c] w fun e w' => e = .returned (.bool true) ∧ Below w.heap.size w w' := by
  have hml : len f ≤ maxLen := Nat.le_trans hl hm
  have HU := Lib.hid (up_any w hN hE)
  have HC := Lib.hid (fun w' (h : Below w.heap.size w w') => refCount_any _ f A c w' (Nat.le_refl _) ((hr.below h).more h.size) hml)
  rw [cnt_small f hwt] at HC
  have HM := Lib.hid (fun w' (h : Below w.heap.size w w') => refMay_any _ f A c w' (Nat.le_refl _) ((hr.below h).more h.size) hml)
  by_cases hbig : (2000 : Int) < (cnt f : Int)
  · go_enter Tryz.func3, Tryz.ntmps3
    go_wp2_with (first
      | (go_at_call 8; (with_reducible refine HU.out.mono ?_); rintro e w1 ⟨rfl, hb1⟩; have HB1 := Lib.hid hb1; clear hb1)
      | (go_at_call 9; (with_reducible refine (HC.out _ HB1.out).mono ?_); rintro e w2 ⟨rfl, rfl⟩))
    go_ret
    exact ⟨rfl, HB1.out⟩
  cases hmay : may f with
  | false =>
    have HP := Lib.hid (fun w' (h : Below w.heap.size w w') => Put_not f A c w' (hN.below h) ((hr.below h).more h.size) hml hmay)
    rw [hmay] at HM
    have heq := run_eql_code
    clear hr hN hE hmay
    go_enter Tryz.func3, Tryz.ntmps3
    go_wp2_with (first
      | (go_at_call 8; (with_reducible refine HU.out.mono ?_); rintro e w1 ⟨rfl, hb1⟩; have HB1 := Lib.hid hb1; clear hb1)
      | (go_at_call 9; (with_reducible refine (HC.out _ HB1.out).mono ?_); rintro e w2 ⟨rfl, rfl⟩)
      | (go_at_call 10; (with_reducible refine (HP.out _ HB1.out).mono ?_); rintro e w3 ⟨rfl, hb3⟩; have HB3 := Lib.hid (HB1.out.trans (hb3.mono HB1.out.size)); clear hb3)
      | (go_at_call 11; (with_reducible refine (HM.out _ HB3.out).mono ?_); rintro e w4 ⟨rfl, hb4⟩; have HB4 := Lib.hid (HB3.out.trans (hb4.mono HB3.out.size)); clear hb4))
    go_ret
    exact ⟨rfl, HB4.out⟩
  | true =>
    have HP := Lib.hid (fun w' (h : Below w.heap.size w w') => Put_may f A c w' (hN.below h) ((hr.below h).more h.size) hml hmay (by omega))
    have HA := Lib.hid (fun w' (h : Below w.heap.size w w') => refAll_any _ f A c w' (Nat.le_refl _) ((hr.below h).more h.size) hmay hml (by omega))
    unfold Told1 at HA
    have hlen := enc_len f hmay hr.vok
    rw [hmay] at HM
    obtain ⟨x, hx⟩ : ∃ x, x = enc f := ⟨_, rfl⟩
    rw [← hx] at HP HA hlen
    have hno : ¬ (9223372036854775807 < x.length + 1) := by omega
    obtain ⟨y, hy⟩ : ∃ y, y = x ++ [11] := ⟨_, rfl⟩
    rw [← hy] at HP
    have HY := Lib.hid hy
    clear hr hN hE hmay hx hy
    go_enter Tryz.func3, Tryz.ntmps3
    go_wp2_with (first
      | (go_at_call 8; (with_reducible refine HU.out.mono ?_); rintro e w1 ⟨rfl, hb1⟩; have HB1 := Lib.hid hb1; clear hb1)
      | (go_at_call 9; (with_reducible refine (HC.out _ HB1.out).mono ?_); rintro e w2 ⟨rfl, rfl⟩)
      | (go_at_call 10; (with_reducible refine (HP.out _ HB1.out).mono ?_); rintro e w3 ⟨v3, rfl, ho3⟩; obtain ⟨A3, c3, hv3, -, -, hs3⟩ := ho3.form; subst hv3; have HB3 := Lib.hid (HB1.out.trans (ho3.below.mono HB1.out.size)); have HS3 := Lib.hid hs3; clear ho3 hs3)
      | (go_at_call 11; (with_reducible refine (HM.out _ HB3.out).mono ?_); rintro e w4 ⟨rfl, hb4⟩; have HB4 := Lib.hid (HB3.out.trans (hb4.mono HB3.out.size)); have HS4 := Lib.hid ((HS3.out.below hb4).more hb4.size); clear hb4))
    have HCv : Hid (∀ w', Below w4.heap.size w4 w' → (convert 26 9 (.slice A3 y.length c3)).run Tryz.prog w' = .ok (.string ⟨y.toArray⟩) w') := Lib.hid fun w' hb => run_str_of (P := Tryz.prog) 26 9 5 Tryz.underlying26 Tryz.underlying5 Tryz.underlying9 (HS4.out.below hb) c3
    refine wp_region_held_drew (S := fun w' => (convert 26 9 (.slice A3 y.length c3)).run Tryz.prog w' = .ok (.string ⟨y.toArray⟩) w') (by kernel_rfl) (HCv.out _ (Below.refl _ _).drew) (fun hHeld => ?_)
    obtain ⟨W5, hW5⟩ : ∃ W5 : World, W5 = w4.drew := ⟨_, rfl⟩
    have HB5 : Hid (Below w4.heap.size w4 W5) := Lib.hid (by rw [hW5]; exact (Below.refl _ _).drew)
    rw [← hW5] at hHeld ⊢
    clear hW5
    refine region_take 0 (some 38) (v := ?_) rfl rfl (by kernel_rfl) (by kernel_rfl) (by kernel_rfl) (fun _ _ _ h => h) (by rfl) ?_ (by assumption) ?_
    rotate_left
    · (intro w hSw; (try dsimp only at hSw); go_simp; try with_reducible rfl)
    try simp only [Act.put, List.setIfInBounds_toArray, List.set_cons_zero, List.set_cons_succ]
    refine region_take 1 (some 39) (v := ?_) rfl rfl (by kernel_rfl) (by kernel_rfl) (by kernel_rfl) (fun _ _ _ h => h) (by rfl) ?_ (by assumption) ?_
    rotate_left
    · (intro w hSw; (try dsimp only at hSw); go_simp; try with_reducible rfl)
    try simp only [Act.put, List.setIfInBounds_toArray, List.set_cons_zero, List.set_cons_succ]
    refine region_take 2 (some 40) (v := ?_) rfl rfl (by kernel_rfl) (by kernel_rfl) (by kernel_rfl) (fun _ _ _ h => h) (by rfl) ?_ (by assumption) ?_
    rotate_left
    · (intro w hSw; (try dsimp only at hSw); go_simp; try with_reducible rfl)
    try simp only [Act.put, List.setIfInBounds_toArray, List.set_cons_zero, List.set_cons_succ]
    refine region_take 3 (some 41) (v := ?_) rfl rfl (by kernel_rfl) (by kernel_rfl) (by kernel_rfl) (fun _ _ _ h => h) (by rfl) ?_ (by assumption) ?_
    rotate_left
    · (intro w hSw; (try dsimp only at hSw); go_simp; try with_reducible rfl)
    try simp only [Act.put, List.setIfInBounds_toArray, List.set_cons_zero, List.set_cons_succ]
    refine region_take 4 (some 42) (v := ?_) rfl rfl (by kernel_rfl) (by kernel_rfl) (by kernel_rfl) (fun _ _ _ h => h) (by rfl) ?_ (by assumption) ?_
    rotate_left
    · (intro w hSw; (try dsimp only at hSw); go_simp; try with_reducible rfl)
    try simp only [Act.put, List.setIfInBounds_toArray, List.set_cons_zero, List.set_cons_succ]
    refine region_take 5 (some 43) (v := ?_) rfl rfl (by kernel_rfl) (by kernel_rfl) (by kernel_rfl) (fun _ _ _ h => h) (by rfl) ?_ (by assumption) ?_
    rotate_left
    · (intro w hSw; (try dsimp only at hSw); go_simp; try with_reducible rfl)
    try simp only [Act.put, List.setIfInBounds_toArray, List.set_cons_zero, List.set_cons_succ]
    refine region_take 6 (some 44) (v := ?_) rfl rfl (by kernel_rfl) (by kernel_rfl) (by kernel_rfl) (fun _ _ _ h => h) (by rfl) ?_ (by assumption) ?_
    rotate_left
    · (intro w hSw; (try dsimp only at hSw); go_simp; try with_reducible rfl)
    try simp only [Act.put, List.setIfInBounds_toArray, List.set_cons_zero, List.set_cons_succ]
    refine region_take 7 (some 45) (v := ?_) rfl rfl (by kernel_rfl) (by kernel_rfl) (by kernel_rfl) (fun _ _ _ h => h) (by rfl) ?_ (by assumption) ?_
    rotate_left
    · (intro w hSw; (try dsimp only at hSw); go_simp; try with_reducible rfl)
    try simp only [Act.put, List.setIfInBounds_toArray, List.set_cons_zero, List.set_cons_succ]
    refine region_take 8 (some 46) (v := ?_) rfl rfl (by kernel_rfl) (by kernel_rfl) (by kernel_rfl) (fun _ _ _ h => h) (by rfl) ?_ (by assumption) ?_
    rotate_left
    · (intro w hSw; (try dsimp only at hSw); go_simp; try with_reducible rfl)
    try simp only [Act.put, List.setIfInBounds_toArray, List.set_cons_zero, List.set_cons_succ]
    refine wpAnyH_ready (rs := [9]) (by kernel_rfl) (by simp) ?_
    refine AllReadyH.cons rfl (fun K hK => ?_) AllReadyH.nil
    go_simp
    refine (HA.out _ (HB4.out.trans (HB5.out.mono HB4.out.size))).mono ?_
    rintro e w6 ⟨A6, c6, rfl, hs6, hb6⟩
    have hB6 : Below w4.heap.size w4 w6 := HB5.out.trans (hb6.mono HB5.out.size)
    have hcv6 : (convert 26 9 (.slice A6 x.length c6)).run Tryz.prog w6 = .ok (.string ⟨x.toArray⟩) w6 := run_str_of (P := Tryz.prog) 26 9 5 Tryz.underlying26 Tryz.underlying5 Tryz.underlying9 hs6 c6
    have hS6 := HCv.out _ hB6
    have HB6 := Lib.hid hB6
    clear hs6 hb6 hB6
    go_wp2_with fail
    refine hK.out _ _ hS6 (fun hHeld => ?_)
    clear hK K
    try simp only [Act.put, List.setIfInBounds_toArray, List.set_cons_zero, List.set_cons_succ]
    refine wpAnyH_ready (rs := [10]) (by kernel_rfl) (by simp) ?_
    refine AllReadyH.cons rfl (fun K hK => ?_) AllReadyH.nil
    go_simp
    refine hK.out _ _ hS6 (fun hHeld => ?_)
    clear hK K
    try simp only [Act.put, List.setIfInBounds_toArray, List.set_cons_zero, List.set_cons_succ]
    refine region_take 11 (some 49) (v := ?_) rfl rfl (by kernel_rfl) (by kernel_rfl) (by kernel_rfl) (fun _ _ _ h => h) (by rfl) ?_ (by assumption) ?_
    rotate_left
    · (intro w hSw; (try dsimp only at hSw); go_simp; try with_reducible rfl)
    try simp only [Act.put, List.setIfInBounds_toArray, List.set_cons_zero, List.set_cons_succ]
    refine region_take 12 (some 50) (v := ?_) rfl rfl (by kernel_rfl) (by kernel_rfl) (by kernel_rfl) (fun _ _ _ h => h) (by rfl) ?_ (by assumption) ?_
    rotate_left
    · (intro w hSw; (try dsimp only at hSw); go_simp; try with_reducible rfl)
    try simp only [Act.put, List.setIfInBounds_toArray, List.set_cons_zero, List.set_cons_succ]
    refine region_take 13 (some 51) (v := ?_) rfl rfl (by kernel_rfl) (by kernel_rfl) (by kernel_rfl) (fun _ _ _ h => h) (by rfl) ?_ (by assumption) ?_
    rotate_left
    · (intro w hSw; (try dsimp only at hSw); go_simp; try with_reducible rfl)
    try simp only [Act.put, List.setIfInBounds_toArray, List.set_cons_zero, List.set_cons_succ]
    refine region_take 14 (some 2) (v := ?_) rfl rfl (by kernel_rfl) (by kernel_rfl) (by kernel_rfl) (fun _ _ _ h => h) (by rfl) ?_ (by assumption) ?_
    rotate_left
    · (intro w hSw; (try dsimp only at hSw); go_simp; try with_reducible rfl)
    try simp only [Act.put, List.setIfInBounds_toArray, List.set_cons_zero, List.set_cons_succ]
    refine wpAnyH_done (by kernel_rfl) ?_ _
    go_wp2_with fail
    go_ret
    refine ⟨ret_bool ?_, HB4.out.trans (HB6.out.mono HB4.out.size)⟩
    rw [HY.out, Lib.toList_data]
    simp
end Go.Proofs.YtbhniddgkdldlaaGreatDoor
