/- The walk of ExprParts: it returns true, whatever the input; nothing that was there changes. -/
import Derived.Test.YtbhniddgkdldlaaGreatDoorExprUp
import Derived.Test.YtbhniddgkdldlaaGreatDoorExprRows
import Derived.Test.YtbhniddgkdldlaaGreatDoorTreeA
set_option linter.unusedVariables false
set_option linter.unusedSimpArgs false
namespace Go.Proofs.YtbhniddgkdldlaaGreatDoor
open Go.RowKit Trx

theorem cnt_small2 (f : Fo) (h : wt f ≤ 1048576) : wrap64 (cnt f : Int) = (cnt f : Int) := by
  have := cnt_le_wt f
  unfold wrap64
  omega
theorem cells_len (ins : List In) : ∀ r ∈ ins.map In.cells, r.length = 9 := fun r hr => by
  obtain ⟨x, _, rfl⟩ := List.mem_map.1 hr
  simp [In.cells, insC]
theorem cells_one (ins : List In) : ∀ r ∈ ins.map In.cells, ∀ u ∈ r, u.oneCell' = true := fun r hr u hu => by
  obtain ⟨x, _, rfl⟩ := List.mem_map.1 hr
  exact In.one x u hu
/-- what Put tells of a list that may be, and of one that may not. -/
def PutP (w : World) (f : Fo) : Ending → World → Prop := fun e w' => (may f = true ∧ ∃ A' c', e = .returned (.tuple #[.slice A' (enc f ++ [11]).length c', .nilIface]) ∧ (enc f ++ [11]).length ≤ c' ∧ c' ≤ maxLen ∧ Sl w' w'.heap.size A' (u8s (enc f ++ [11])) ∧ Below w.heap.size w w') ∨
  (may f = false ∧ e = .returned (.tuple #[.slice none 0 0, .iface 32 (.int .i64 1)]) ∧ Below w.heap.size w w')
theorem Put_any6 (f : Fo) (A : Option Addr) (c : Nat) (w : World) (hN : Nam w) (hr : RdS w w.heap.size A f) (hlen : len f ≤ maxLen) (hl : wt f ≤ 2200000) : Calls Tryz.prog 10 #[.slice A (len f) c] w (PutP w f) := by
  cases hm : may f with
  | true =>
    refine (Put_may f A c w hN hr hlen hm hl).mono ?_
    rintro e w' ⟨v, rfl, ho⟩
    obtain ⟨A', c', rfl, h1, h2, h3⟩ := ho.form2
    exact .inl ⟨hm, A', c', rfl, h1, h2, h3, ho.below⟩
  | false =>
    refine (Put_not f A c w hN hr hlen hm).mono ?_
    rintro e w' ⟨rfl, hb⟩
    exact .inr ⟨hm, rfl, hb⟩
set_option maxHeartbeats 4000000 in
set_option maxRecDepth 100000 in
theorem walk_ExprParts (A1 : Option Addr) (c1 : Nat) (f1 : Fo) (A2 : Option Addr) (c2 : Nat) (f2 : Fo) (w : World) (hr1 : RdS w w.heap.size A1 f1) (hl1 : len f1 ≤ c1) (hm1 : c1 ≤ maxLen) (hr2 : RdS w w.heap.size A2 f2) (hl2 : len f2 ≤ c2) (hm2 : c2 ≤ maxLen)
    (hw1 : wt f1 ≤ 1048576) (hw2 : wt f2 ≤ 1048576) (hN : Nam w) (hE : Et w) :
    Calls Tryz.prog 6 #[.slice A1 (len f1) c1, .slice A2 (len f2) c2] w fun e w' => e = .returned (.bool true) ∧ Below w.heap.size w w' := by
  have hml1 : len f1 ≤ maxLen := Nat.le_trans hl1 hm1
  have hml2 : len f2 ≤ maxLen := Nat.le_trans hl2 hm2
  have HU := Lib.hid (up_any w hN hE)
  have HC1 := Lib.hid (fun w' (h : Below w.heap.size w w') => refCount_any _ f1 A1 c1 w' (Nat.le_refl _) ((hr1.below h).more h.size) hml1)
  have HC2 := Lib.hid (fun w' (h : Below w.heap.size w w') => refCount_any _ f2 A2 c2 w' (Nat.le_refl _) ((hr2.below h).more h.size) hml2)
  rw [cnt_small2 f1 hw1] at HC1
  rw [cnt_small2 f2 hw2] at HC2
  by_cases hbig : ((1000 : Int) < (cnt f1 : Int)) ∨ ((1000 : Int) < (cnt f2 : Int))
  · have hb2 : ((1000 : Int) < (cnt f1 : Int)) ∨ (¬ (1000 : Int) < (cnt f1 : Int) ∧ (1000 : Int) < (cnt f2 : Int)) := by omega
    clear hbig
    rcases hb2 with t1 | ⟨t1, t2⟩
    all_goals
      go_enter Tryz.func6, Tryz.ntmps6
      go_wp2_with (first
        | (go_at_call 8; (with_reducible refine HU.out.mono ?_); rintro e w1 ⟨rfl, hb1⟩; have HB1 := Lib.hid hb1; clear hb1)
        | (go_at_call 9; (with_reducible refine (HC1.out _ HB1.out).mono ?_); rintro e w2 ⟨rfl, rfl⟩)
        | (go_at_call 9; (with_reducible refine (HC2.out _ HB1.out).mono ?_); rintro e w3 ⟨rfl, rfl⟩))
      go_ret
      exact ⟨rfl, HB1.out⟩
  have t1 : ¬ (1000 : Int) < (cnt f1 : Int) := fun h => hbig (.inl h)
  have t2 : ¬ (1000 : Int) < (cnt f2 : Int) := fun h => hbig (.inr h)
  clear hbig
  have hlw1 := len_le_wt f1
  have hlw2 := len_le_wt f2
  obtain ⟨ins1, hi1, ro1, ok1⟩ := hr1.rows
  obtain ⟨ins2, hi2, ro2, ok2⟩ := hr2.rows
  have HL1 : Hid ((ins1.map In.cells).length = len f1) := Lib.hid (by have := congrArg List.length hi1; rw [List.length_map] at this ⊢; exact this)
  have HL2 : Hid ((ins2.map In.cells).length = len f2) := Lib.hid (by have := congrArg List.length hi2; rw [List.length_map] at this ⊢; exact this)
  obtain ⟨f3, hf3⟩ : ∃ f3, f3 = ofN (nds f1 ++ nds f2) := ⟨_, rfl⟩
  have e3 : enc f3 = enc f1 ++ enc f2 := by rw [hf3, enc_append, ofN_nds, ofN_nds]
  have m3 : may f3 = (may f1 && may f2) := by rw [hf3, may_ofN, List.all_append, ← may_nds, ← may_nds]
  have w3 : wt f3 = wt f1 + wt f2 := by rw [hf3, wt_append, ofN_nds, ofN_nds]
  have HP1 := Lib.hid (fun w' (h : Below w.heap.size w w') => Put_any6 f1 A1 c1 w' (hN.below h) ((hr1.below h).more h.size) hml1 (by omega))
  have HP2 := Lib.hid (fun w' (h : Below w.heap.size w w') => Put_any6 f2 A2 c2 w' (hN.below h) ((hr2.below h).more h.size) hml2 (by omega))
  have HP3 := Lib.hid (fun w' (h : Below w.heap.size w w') B w0 v (ho : OwnK B w0 w' 49 9 v (ins1.map In.cells ++ ins2.map In.cells)) => show ∃ A3 c3, v = .slice A3 (len f3) c3 ∧ Calls Tryz.prog 10 #[.slice A3 (len f3) c3] w' (PutP w' f3) by
    rw [← List.map_append] at ho
    obtain ⟨A3, c3, hv, h1, h2, h3⟩ := RdS.of_own ho (fun x hx => by
      rcases List.mem_append.1 hx with hx | hx
      · exact ((ok1 x hx).below h).more h.size
      · exact ((ok2 x hx).below h).more h.size)
    have e : ofN ((ins1 ++ ins2).map (·.n)) = f3 := by rw [List.map_append, hi1, hi2, hf3]
    rw [e] at hv h1 h3
    exact ⟨A3, c3, hv, Put_any6 f3 A3 c3 w' (hN.below h) h3 (Nat.le_trans h1 h2) (by omega)⟩)
  have RO1 := Lib.hid (fun w' (h : Below w.heap.size w w') => ro1.below h)
  have RO2 := Lib.hid (fun w' (h : Below w.heap.size w w') => ro2.below h)
  have E3 := Lib.hid e3
  have M3 := Lib.hid m3
  have hlen1 := fun h => enc_len f1 h hr1.vok
  have hlen2 := fun h => enc_len f2 h hr2.vok
  have HLen1 := Lib.hid hlen1
  have HLen2 := Lib.hid hlen2
  unfold PutP at HP1 HP2 HP3
  obtain ⟨q1, hq1⟩ : ∃ q1, q1 = enc f1 ++ [11] := ⟨_, rfl⟩
  obtain ⟨q2, hq2⟩ : ∃ q2, q2 = enc f2 ++ [11] := ⟨_, rfl⟩
  obtain ⟨q3, hq3⟩ : ∃ q3, q3 = enc f3 ++ [11] := ⟨_, rfl⟩
  rw [← hq1] at HP1
  rw [← hq2] at HP2
  rw [← hq3] at HP3
  have Q1 := Lib.hid hq1
  have Q2 := Lib.hid hq2
  have Q3 := Lib.hid hq3
  clear hr1 hr2 hN hE ok1 ok2 ro1 ro2 hi1 hi2 hf3 e3 m3 w3 hlen1 hlen2 hq1 hq2 hq3
  go_enter Tryz.func6, Tryz.ntmps6
  go_wp2_with (first
    | (go_at_call 8; (with_reducible refine HU.out.mono ?_); rintro e w1 ⟨rfl, hb1⟩; have HB1 := Lib.hid hb1; clear hb1)
    | (go_at_call 9; (with_reducible refine (HC1.out _ HB1.out).mono ?_); rintro e w2 ⟨rfl, rfl⟩)
    | (go_at_call 9; (with_reducible refine (HC2.out _ HB1.out).mono ?_); rintro e w3 ⟨rfl, rfl⟩))
  with_reducible refine (HP1.out _ HB1.out).mono ?_
  rintro e w4 h4
  have HB4 : Hid (Below w.heap.size w w4) := Lib.hid (by rcases h4 with ⟨-, _, _, -, -, -, -, h⟩ | ⟨-, -, h⟩ <;> exact HB1.out.trans (h.mono HB1.out.size))
  rcases h4 with ⟨y1, Ax, cx, rfl, lx, mx, sx, -⟩ | ⟨y1, rfl, -⟩
  · have HSx := Lib.hid sx
    clear sx
    go_wp2_with fail
    with_reducible refine (HP2.out _ HB4.out).mono ?_
    rintro e w5 h5
    have hb45 : Below w4.heap.size w4 w5 := by rcases h5 with ⟨-, _, _, -, -, -, -, h⟩ | ⟨-, -, h⟩ <;> exact h
    have HB5 : Hid (Below w.heap.size w w5) := Lib.hid (HB4.out.trans (hb45.mono HB4.out.size))
    have HSx5 := Lib.hid ((HSx.out.below hb45).more hb45.size)
    clear hb45
    rcases h5 with ⟨y2, Ay, cy, rfl, ly, my, sy, -⟩ | ⟨y2, rfl, -⟩
    · have HSy := Lib.hid sy
      have Y1 := Lib.hid y1
      have Y2 := Lib.hid y2
      clear sy y1 y2
      go_wp2_with (first
      | (at_builtin; refine wpList_catK rfl (.tmp 45) (.tmp 46) _ rfl 120 Tryz.underlying22 elem_ins (by decide) rfl (OwnK.lit0' _ _ _ _ (by simp)) rfl (RO1.out _ (HB5.out.alloc HB5.out.size _)) (cells_len _) HL1.out (cells_one _) (by simp; omega) (by simp; unfold maxLen; omega) ?_; intro v6 w6 ho6 hk6 hs6; rw [List.nil_append] at ho6; have HO6 := Lib.hid ho6; have HB6 := Lib.hid (HB5.out.trans (ho6.below.mono HB5.out.size)); clear ho6 hk6 hs6)
      | (at_builtin; refine wpList_catK rfl (.tmp 47) (.tmp 48) _ rfl 120 Tryz.underlying22 elem_ins (by decide) rfl HO6.out rfl (RO2.out _ HB6.out) (cells_len _) HL2.out (cells_one _) (by rw [HL1.out]; omega) (by rw [HL1.out]; unfold maxLen; omega) ?_; intro v7 w7 ho7 hk7 hs7; have hB7 := HB5.out.trans (ho7.below.mono HB5.out.size); obtain ⟨A3, c3, hv3, hcall⟩ := HP3.out w7 hB7 _ _ _ ho7; subst hv3; have HB7 := Lib.hid hB7; have HP7 := Lib.hid hcall; have hs75 := ho7.below; have HB57 := Lib.hid hs75; clear ho7 hk7 hs7 hB7 hcall hs75))
      with_reducible refine HP7.out.mono ?_
      rintro e w8 (⟨-, Az, cz, rfl, lz, mz, sz, hb8⟩ | ⟨y3, -⟩)
      rotate_left
      · rw [M3.out, Y1.out, Y2.out] at y3; simp at y3
      have HB8 := Lib.hid (HB7.out.trans (hb8.mono HB7.out.size))
      have hb58 := HB57.out.trans (hb8.mono HB57.out.size)
      have hsx := HSx5.out.below hb58
      have hsy := HSy.out.below hb58
      obtain ⟨x1, hx1⟩ : ∃ x1, x1 = enc f1 := ⟨_, rfl⟩
      have hq1 : q1 = x1 ++ [11] := by rw [hx1]; exact Q1.out
      have hsx1 : Sl w8 w5.heap.size Ax (u8s x1) := by
        have h := hsx.take x1.length
        rw [← u8s_take, hq1, List.take_left] at h
        exact h
      have hn1 : q1.length = x1.length + 1 := by rw [hq1]; simp
      have hl1' := HLen1.out Y1.out
      have hl2' := HLen2.out Y2.out
      have hn2 : q2.length = (enc f2).length + 1 := by rw [Q2.out]; simp
      have hno : ¬ (9223372036854775807 < x1.length + q2.length) := by rw [← hx1] at hl1'; omega
      have e78 : IntKind.i64.wrap ((q1.length : Int) - 1) = (x1.length : Int) := by
        rw [← hx1] at hl1'
        rw [IntWalk.i64_left]; unfold wrap64; omega
      have e78' : wrap64 ((q1.length : Int) - 1) = (x1.length : Int) := by
        rw [← hx1] at hl1'
        unfold wrap64; omega
      have b0 : (0 : Int) ≤ (x1.length : Int) := by omega
      have b1 : (x1.length : Int) ≤ (cx : Int) := by omega
      have b2 : (0 : Int) < (q1.length : Int) := by omega
      have b2n : 0 < q1.length := by omega
      have b2d : decide (0 < q1.length) = true := by simp; omega
      have b2e : decide ((0 : Int) < (q1.length : Int)) = true := by simp; omega
      have b3 : ((x1.length : Int)).toNat = x1.length := by simp
      have HCv : Hid (∀ w', Below w8.heap.size w8 w' → ((convert 26 9 (.slice Ax x1.length cx)).run Tryz.prog w' = .ok (.string ⟨x1.toArray⟩) w' ∧ (convert 26 9 (.slice Ay q2.length cy)).run Tryz.prog w' = .ok (.string ⟨q2.toArray⟩) w' ∧ (convert 26 9 (.slice Az q3.length cz)).run Tryz.prog w' = .ok (.string ⟨q3.toArray⟩) w')) := Lib.hid fun w' hb =>
        ⟨run_str_of (P := Tryz.prog) 26 9 5 Tryz.underlying26 Tryz.underlying5 Tryz.underlying9 (hsx1.below (hb.mono hb58.size)) cx,
         run_str_of (P := Tryz.prog) 26 9 5 Tryz.underlying26 Tryz.underlying5 Tryz.underlying9 (hsy.below (hb.mono hb58.size)) cy,
         run_str_of (P := Tryz.prog) 26 9 5 Tryz.underlying26 Tryz.underlying5 Tryz.underlying9 (sz.below hb) cz⟩
      have HX1 := Lib.hid hx1
      clear hb8 hb58 hsx hsy hsx1 hx1 hq1 hn1 hl1' hl2' hn2 sz
      go_wp2_with fail
      refine wp_region_held_drew (S := fun w' => (convert 26 9 (.slice Ax x1.length cx)).run Tryz.prog w' = .ok (.string ⟨x1.toArray⟩) w' ∧ (convert 26 9 (.slice Ay q2.length cy)).run Tryz.prog w' = .ok (.string ⟨q2.toArray⟩) w' ∧ (convert 26 9 (.slice Az q3.length cz)).run Tryz.prog w' = .ok (.string ⟨q3.toArray⟩) w') (by kernel_rfl) (HCv.out _ (Below.refl _ _).drew) (fun hHeld => ?_)
      refine region_take 0 (some 64) (v := ?_) rfl rfl (by kernel_rfl) (by kernel_rfl) (by kernel_rfl) (fun _ _ _ h => h) (by rfl) ?_ (by assumption) ?_
      rotate_left
      · (intro w' hSw; obtain ⟨s0, s1, s2⟩ := hSw; go_simp; try with_reducible rfl)
      try simp only [Act.put, List.setIfInBounds_toArray, List.set_cons_zero, List.set_cons_succ]
      refine region_take 1 (some 65) (v := ?_) rfl rfl (by kernel_rfl) (by kernel_rfl) (by kernel_rfl) (fun _ _ _ h => h) (by rfl) ?_ (by assumption) ?_
      rotate_left
      · (intro w' hSw; obtain ⟨s0, s1, s2⟩ := hSw; go_simp; try with_reducible rfl)
      try simp only [Act.put, List.setIfInBounds_toArray, List.set_cons_zero, List.set_cons_succ]
      refine region_take 2 (some 66) (v := ?_) rfl rfl (by kernel_rfl) (by kernel_rfl) (by kernel_rfl) (fun _ _ _ h => h) (by rfl) ?_ (by assumption) ?_
      rotate_left
      · (intro w' hSw; obtain ⟨s0, s1, s2⟩ := hSw; go_simp; try with_reducible rfl)
      try simp only [Act.put, List.setIfInBounds_toArray, List.set_cons_zero, List.set_cons_succ]
      refine region_take 3 (some 67) (v := ?_) rfl rfl (by kernel_rfl) (by kernel_rfl) (by kernel_rfl) (fun _ _ _ h => h) (by rfl) ?_ (by assumption) ?_
      rotate_left
      · (intro w' hSw; obtain ⟨s0, s1, s2⟩ := hSw; go_simp; try with_reducible rfl)
      try simp only [Act.put, List.setIfInBounds_toArray, List.set_cons_zero, List.set_cons_succ]
      refine region_take 4 (some 68) (v := ?_) rfl rfl (by kernel_rfl) (by kernel_rfl) (by kernel_rfl) (fun _ _ _ h => h) (by rfl) ?_ (by assumption) ?_
      rotate_left
      · (intro w' hSw; obtain ⟨s0, s1, s2⟩ := hSw; go_simp; try with_reducible rfl)
      try simp only [Act.put, List.setIfInBounds_toArray, List.set_cons_zero, List.set_cons_succ]
      refine region_take 5 (some 69) (v := ?_) rfl rfl (by kernel_rfl) (by kernel_rfl) (by kernel_rfl) (fun _ _ _ h => h) (by rfl) ?_ (by assumption) ?_
      rotate_left
      · (intro w' hSw; obtain ⟨s0, s1, s2⟩ := hSw; go_simp; try with_reducible rfl)
      try simp only [Act.put, List.setIfInBounds_toArray, List.set_cons_zero, List.set_cons_succ]
      refine region_take 6 (some 70) (v := ?_) rfl rfl (by kernel_rfl) (by kernel_rfl) (by kernel_rfl) (fun _ _ _ h => h) (by rfl) ?_ (by assumption) ?_
      rotate_left
      · (intro w' hSw; obtain ⟨s0, s1, s2⟩ := hSw; go_simp; try with_reducible rfl)
      try simp only [Act.put, List.setIfInBounds_toArray, List.set_cons_zero, List.set_cons_succ]
      refine region_take 7 (some 71) (v := ?_) rfl rfl (by kernel_rfl) (by kernel_rfl) (by kernel_rfl) (fun _ _ _ h => h) (by rfl) ?_ (by assumption) ?_
      rotate_left
      · (intro w' hSw; obtain ⟨s0, s1, s2⟩ := hSw; go_simp; try with_reducible rfl)
      try simp only [Act.put, List.setIfInBounds_toArray, List.set_cons_zero, List.set_cons_succ]
      refine region_take 8 (some 72) (v := ?_) rfl rfl (by kernel_rfl) (by kernel_rfl) (by kernel_rfl) (fun _ _ _ h => h) (by rfl) ?_ (by assumption) ?_
      rotate_left
      · (intro w' hSw; obtain ⟨s0, s1, s2⟩ := hSw; go_simp; try with_reducible rfl)
      try simp only [Act.put, List.setIfInBounds_toArray, List.set_cons_zero, List.set_cons_succ]
      refine region_take 9 (some 73) (v := ?_) rfl rfl (by kernel_rfl) (by kernel_rfl) (by kernel_rfl) (fun _ _ _ h => h) (by rfl) ?_ (by assumption) ?_
      rotate_left
      · (intro w' hSw; obtain ⟨s0, s1, s2⟩ := hSw; go_simp; try with_reducible rfl)
      try simp only [Act.put, List.setIfInBounds_toArray, List.set_cons_zero, List.set_cons_succ]
      refine region_take 10 (some 74) (v := ?_) rfl rfl (by kernel_rfl) (by kernel_rfl) (by kernel_rfl) (fun _ _ _ h => h) (by rfl) ?_ (by assumption) ?_
      rotate_left
      · (intro w' hSw; obtain ⟨s0, s1, s2⟩ := hSw; go_simp; try with_reducible rfl)
      try simp only [Act.put, List.setIfInBounds_toArray, List.set_cons_zero, List.set_cons_succ]
      refine region_take 11 (some 75) (v := ?_) rfl rfl (by kernel_rfl) (by kernel_rfl) (by kernel_rfl) (fun _ _ _ h => h) (by rfl) ?_ (by assumption) ?_
      rotate_left
      · (intro w' hSw; obtain ⟨s0, s1, s2⟩ := hSw; go_simp; try with_reducible rfl)
      try simp only [Act.put, List.setIfInBounds_toArray, List.set_cons_zero, List.set_cons_succ]
      refine region_take 12 (some 76) (v := ?_) rfl rfl (by kernel_rfl) (by kernel_rfl) (by kernel_rfl) (fun _ _ _ h => h) (by rfl) ?_ (by assumption) ?_
      rotate_left
      · (intro w' hSw; obtain ⟨s0, s1, s2⟩ := hSw; go_simp; try with_reducible rfl)
      try simp only [Act.put, List.setIfInBounds_toArray, List.set_cons_zero, List.set_cons_succ]
      refine region_take 13 (some 77) (v := ?_) rfl rfl (by kernel_rfl) (by kernel_rfl) (by kernel_rfl) (fun _ _ _ h => h) (by rfl) ?_ (by assumption) ?_
      rotate_left
      · (intro w' hSw; obtain ⟨s0, s1, s2⟩ := hSw; go_simp; try with_reducible rfl)
      try simp only [Act.put, List.setIfInBounds_toArray, List.set_cons_zero, List.set_cons_succ]
      refine region_take 14 (some 78) (v := ?_) rfl rfl (by kernel_rfl) (by kernel_rfl) (by kernel_rfl) (fun _ _ _ h => h) (by rfl) ?_ (by assumption) ?_
      rotate_left
      · (intro w' hSw; obtain ⟨s0, s1, s2⟩ := hSw; go_simp; try with_reducible rfl)
      try simp only [Act.put, List.setIfInBounds_toArray, List.set_cons_zero, List.set_cons_succ]
      refine region_take 15 (some 79) (v := ?_) rfl rfl (by kernel_rfl) (by kernel_rfl) (by kernel_rfl) (fun _ _ _ h => h) (by rfl) ?_ (by assumption) ?_
      rotate_left
      · (intro w' hSw; obtain ⟨s0, s1, s2⟩ := hSw; go_simp; try with_reducible rfl)
      try simp only [Act.put, List.setIfInBounds_toArray, List.set_cons_zero, List.set_cons_succ]
      refine region_take 16 (some 80) (v := ?_) rfl rfl (by kernel_rfl) (by kernel_rfl) (by kernel_rfl) (fun _ _ _ h => h) (by rfl) ?_ (by assumption) ?_
      rotate_left
      · (intro w' hSw; obtain ⟨s0, s1, s2⟩ := hSw; go_simp; try with_reducible rfl)
      try simp only [Act.put, List.setIfInBounds_toArray, List.set_cons_zero, List.set_cons_succ]
      refine region_take 17 (some 81) (v := ?_) rfl rfl (by kernel_rfl) (by kernel_rfl) (by kernel_rfl) (fun _ _ _ h => h) (by rfl) ?_ (by assumption) ?_
      rotate_left
      · (intro w' hSw; obtain ⟨s0, s1, s2⟩ := hSw; go_simp; try with_reducible rfl)
      try simp only [Act.put, List.setIfInBounds_toArray, List.set_cons_zero, List.set_cons_succ]
      refine region_take 18 (some 82) (v := ?_) rfl rfl (by kernel_rfl) (by kernel_rfl) (by kernel_rfl) (fun _ _ _ h => h) (by rfl) ?_ (by assumption) ?_
      rotate_left
      · (intro w' hSw; obtain ⟨s0, s1, s2⟩ := hSw; go_simp; try with_reducible rfl)
      try simp only [Act.put, List.setIfInBounds_toArray, List.set_cons_zero, List.set_cons_succ]
      refine region_take 19 (some 83) (v := ?_) rfl rfl (by kernel_rfl) (by kernel_rfl) (by kernel_rfl) (fun _ _ _ h => h) (by rfl) ?_ (by assumption) ?_
      rotate_left
      · (intro w' hSw; obtain ⟨s0, s1, s2⟩ := hSw; go_simp; try with_reducible rfl)
      try simp only [Act.put, List.setIfInBounds_toArray, List.set_cons_zero, List.set_cons_succ]
      refine region_take 20 (some 84) (v := ?_) rfl rfl (by kernel_rfl) (by kernel_rfl) (by kernel_rfl) (fun _ _ _ h => h) (by rfl) ?_ (by assumption) ?_
      rotate_left
      · (intro w' hSw; obtain ⟨s0, s1, s2⟩ := hSw; go_simp; try with_reducible rfl)
      try simp only [Act.put, List.setIfInBounds_toArray, List.set_cons_zero, List.set_cons_succ]
      refine region_take 21 (some 85) (v := ?_) rfl rfl (by kernel_rfl) (by kernel_rfl) (by kernel_rfl) (fun _ _ _ h => h) (by rfl) ?_ (by assumption) ?_
      rotate_left
      · (intro w' hSw; obtain ⟨s0, s1, s2⟩ := hSw; go_simp; try with_reducible rfl)
      try simp only [Act.put, List.setIfInBounds_toArray, List.set_cons_zero, List.set_cons_succ]
      refine region_take 22 (some 86) (v := ?_) rfl rfl (by kernel_rfl) (by kernel_rfl) (by kernel_rfl) (fun _ _ _ h => h) (by rfl) ?_ (by assumption) ?_
      rotate_left
      · (intro w' hSw; obtain ⟨s0, s1, s2⟩ := hSw; go_simp; try with_reducible rfl)
      try simp only [Act.put, List.setIfInBounds_toArray, List.set_cons_zero, List.set_cons_succ]
      refine region_take 23 (some 87) (v := ?_) rfl rfl (by kernel_rfl) (by kernel_rfl) (by kernel_rfl) (fun _ _ _ h => h) (by rfl) ?_ (by assumption) ?_
      rotate_left
      · (intro w' hSw; obtain ⟨s0, s1, s2⟩ := hSw; go_simp; try with_reducible rfl)
      try simp only [Act.put, List.setIfInBounds_toArray, List.set_cons_zero, List.set_cons_succ]
      refine region_take 24 (some 4) (v := ?_) rfl rfl (by kernel_rfl) (by kernel_rfl) (by kernel_rfl) (fun _ _ _ h => h) (by rfl) ?_ (by assumption) ?_
      rotate_left
      · (intro w' hSw; obtain ⟨s0, s1, s2⟩ := hSw; go_simp; try with_reducible rfl)
      try simp only [Act.put, List.setIfInBounds_toArray, List.set_cons_zero, List.set_cons_succ]
      refine wpAnyH_done (by kernel_rfl) ?_ _
      go_wp2_with fail
      go_ret
      refine ⟨ret_bool ?_, HB8.out.drew⟩
      rw [Q3.out, E3.out, Lib.toList_data, HX1.out]
      have := Q2.out
      simp [this]
    · go_wp2_with (first
      | (at_builtin; refine wpList_catK rfl (.tmp 45) (.tmp 46) _ rfl 120 Tryz.underlying22 elem_ins (by decide) rfl (OwnK.lit0' _ _ _ _ (by simp)) rfl (RO1.out _ (HB5.out.alloc HB5.out.size _)) (cells_len _) HL1.out (cells_one _) (by simp; omega) (by simp; unfold maxLen; omega) ?_; intro v6 w6 ho6 hk6 hs6; rw [List.nil_append] at ho6; have HO6 := Lib.hid ho6; have HB6 := Lib.hid (HB5.out.trans (ho6.below.mono HB5.out.size)); clear ho6 hk6 hs6)
      | (at_builtin; refine wpList_catK rfl (.tmp 47) (.tmp 48) _ rfl 120 Tryz.underlying22 elem_ins (by decide) rfl HO6.out rfl (RO2.out _ HB6.out) (cells_len _) HL2.out (cells_one _) (by rw [HL1.out]; omega) (by rw [HL1.out]; unfold maxLen; omega) ?_; intro v7 w7 ho7 hk7 hs7; have hB7 := HB5.out.trans (ho7.below.mono HB5.out.size); obtain ⟨A3, c3, hv3, hcall⟩ := HP3.out w7 hB7 _ _ _ ho7; subst hv3; have HB7 := Lib.hid hB7; have HP7 := Lib.hid hcall; have hs75 := ho7.below; have HB57 := Lib.hid hs75; clear ho7 hk7 hs7 hB7 hcall hs75))
      with_reducible refine HP7.out.mono ?_
      rintro e w8 (⟨y3, -⟩ | ⟨-, rfl, hb8⟩)
      · rw [M3.out, y2] at y3; simp at y3
      have HB8 := Lib.hid (HB7.out.trans (hb8.mono HB7.out.size))
      clear hb8 y1 y2
      go_wp2_with fail
      go_ret
      exact ⟨rfl, HB8.out⟩
  · go_wp2_with fail
    with_reducible refine (HP2.out _ HB4.out).mono ?_
    rintro e w5 h5
    have hb45 : Below w4.heap.size w4 w5 := by rcases h5 with ⟨-, _, _, -, -, -, -, h⟩ | ⟨-, -, h⟩ <;> exact h
    have HB5 : Hid (Below w.heap.size w w5) := Lib.hid (HB4.out.trans (hb45.mono HB4.out.size))
    clear hb45
    rcases h5 with ⟨-, Ay, cy, rfl, ly, my, sy, -⟩ | ⟨-, rfl, -⟩
    · clear sy
      go_wp2_with (first
      | (at_builtin; refine wpList_catK rfl (.tmp 45) (.tmp 46) _ rfl 120 Tryz.underlying22 elem_ins (by decide) rfl (OwnK.lit0' _ _ _ _ (by simp)) rfl (RO1.out _ (HB5.out.alloc HB5.out.size _)) (cells_len _) HL1.out (cells_one _) (by simp; omega) (by simp; unfold maxLen; omega) ?_; intro v6 w6 ho6 hk6 hs6; rw [List.nil_append] at ho6; have HO6 := Lib.hid ho6; have HB6 := Lib.hid (HB5.out.trans (ho6.below.mono HB5.out.size)); clear ho6 hk6 hs6)
      | (at_builtin; refine wpList_catK rfl (.tmp 47) (.tmp 48) _ rfl 120 Tryz.underlying22 elem_ins (by decide) rfl HO6.out rfl (RO2.out _ HB6.out) (cells_len _) HL2.out (cells_one _) (by rw [HL1.out]; omega) (by rw [HL1.out]; unfold maxLen; omega) ?_; intro v7 w7 ho7 hk7 hs7; have hB7 := HB5.out.trans (ho7.below.mono HB5.out.size); obtain ⟨A3, c3, hv3, hcall⟩ := HP3.out w7 hB7 _ _ _ ho7; subst hv3; have HB7 := Lib.hid hB7; have HP7 := Lib.hid hcall; have hs75 := ho7.below; have HB57 := Lib.hid hs75; clear ho7 hk7 hs7 hB7 hcall hs75))
      with_reducible refine HP7.out.mono ?_
      rintro e w8 (⟨y3, -⟩ | ⟨-, rfl, hb8⟩)
      · rw [M3.out, y1] at y3; simp at y3
      have HB8 := Lib.hid (HB7.out.trans (hb8.mono HB7.out.size))
      clear hb8 y1
      go_wp2_with fail
      go_ret
      exact ⟨rfl, HB8.out⟩
    · go_wp2_with (first
      | (at_builtin; refine wpList_catK rfl (.tmp 45) (.tmp 46) _ rfl 120 Tryz.underlying22 elem_ins (by decide) rfl (OwnK.lit0' _ _ _ _ (by simp)) rfl (RO1.out _ (HB5.out.alloc HB5.out.size _)) (cells_len _) HL1.out (cells_one _) (by simp; omega) (by simp; unfold maxLen; omega) ?_; intro v6 w6 ho6 hk6 hs6; rw [List.nil_append] at ho6; have HO6 := Lib.hid ho6; have HB6 := Lib.hid (HB5.out.trans (ho6.below.mono HB5.out.size)); clear ho6 hk6 hs6)
      | (at_builtin; refine wpList_catK rfl (.tmp 47) (.tmp 48) _ rfl 120 Tryz.underlying22 elem_ins (by decide) rfl HO6.out rfl (RO2.out _ HB6.out) (cells_len _) HL2.out (cells_one _) (by rw [HL1.out]; omega) (by rw [HL1.out]; unfold maxLen; omega) ?_; intro v7 w7 ho7 hk7 hs7; have hB7 := HB5.out.trans (ho7.below.mono HB5.out.size); obtain ⟨A3, c3, hv3, hcall⟩ := HP3.out w7 hB7 _ _ _ ho7; subst hv3; have HB7 := Lib.hid hB7; have HP7 := Lib.hid hcall; have hs75 := ho7.below; have HB57 := Lib.hid hs75; clear ho7 hk7 hs7 hB7 hcall hs75))
      with_reducible refine HP7.out.mono ?_
      rintro e w8 (⟨y3, -⟩ | ⟨-, rfl, hb8⟩)
      · rw [M3.out, y1] at y3; simp at y3
      have HB8 := Lib.hid (HB7.out.trans (hb8.mono HB7.out.size))
      clear hb8 y1
      go_wp2_with fail
      go_ret
      exact ⟨rfl, HB8.out⟩
end Go.Proofs.YtbhniddgkdldlaaGreatDoor
