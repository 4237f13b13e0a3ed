/- The walk of OpLooks. -/
import Derived.Test.YtblmhlojbjhmnaaDoorOpN
namespace Go.Proofs.YtblmhlojbjhmnaaDoor
open Go.RowKit

theorem all_length : Opx.all.length = 102 := by
  have := upTo2_len 18
  exact this
theorem all_byte (b : Int) (hn : Opx.nm b ≠ []) : ∃ r ∈ Opx.all, r.byte = b := by
  obtain ⟨j, rfl, hj, hn'⟩ := isOp_of b hn
  have := List.all_eq_true.1 Opx.all_there j (by simpa using hj)
  simp [hn'] at this
  obtain ⟨r, h1, h2⟩ := this
  exact ⟨r, h1, h2⟩
theorem all_named (r : Opx.R) (hr : r ∈ Opx.all) : Opx.nm r.byte ≠ [] ∧ r.name = Opx.nm r.byte := by
  have h2 := List.all_eq_true.1 Opx.all_agrees r hr
  simp only [Opx.agrees, Bool.and_eq_true, decide_eq_true_eq, beq_iff_eq] at h2
  obtain ⟨⟨⟨⟨⟨⟨⟨⟨-, -⟩, f1⟩, f2⟩, -⟩, -⟩, f5⟩, f6⟩, f7⟩ := h2
  exact ⟨by simpa using f7, f1⟩

/-- seven cells of one block and five of another, kept. -/
theorem twelve {w0 w' : World} {B m g i : Nat} {a0 a1 a2 a3 a4 a5 a6 b0 b1 b2 b3 b4 : Value} (h : Below B w0 w') (hm : m < B) (hg : g < B)
    (k : (w0.cell? ⟨m, 0, none⟩ = some a0 ∧ w0.cell? ⟨m, 1, none⟩ = some a1 ∧ w0.cell? ⟨m, 2, none⟩ = some a2 ∧ w0.cell? ⟨m, 3, none⟩ = some a3 ∧ w0.cell? ⟨m, 4, none⟩ = some a4 ∧ w0.cell? ⟨m, 5, none⟩ = some a5 ∧ w0.cell? ⟨m, 6, none⟩ = some a6) ∧
      (w0.cell? ⟨g, i, none⟩ = some b0 ∧ w0.cell? ⟨g, i + 1, none⟩ = some b1 ∧ w0.cell? ⟨g, i + 2, none⟩ = some b2 ∧ w0.cell? ⟨g, i + 3, none⟩ = some b3 ∧ w0.cell? ⟨g, i + 4, none⟩ = some b4)) :
    (w'.cell? ⟨m, 0, none⟩ = some a0 ∧ w'.cell? ⟨m, 1, none⟩ = some a1 ∧ w'.cell? ⟨m, 2, none⟩ = some a2 ∧ w'.cell? ⟨m, 3, none⟩ = some a3 ∧ w'.cell? ⟨m, 4, none⟩ = some a4 ∧ w'.cell? ⟨m, 5, none⟩ = some a5 ∧ w'.cell? ⟨m, 6, none⟩ = some a6) ∧
      (w'.cell? ⟨g, i, none⟩ = some b0 ∧ w'.cell? ⟨g, i + 1, none⟩ = some b1 ∧ w'.cell? ⟨g, i + 2, none⟩ = some b2 ∧ w'.cell? ⟨g, i + 3, none⟩ = some b3 ∧ w'.cell? ⟨g, i + 4, none⟩ = some b4) := by
  have hm' : ∀ n, w'.cell? ⟨m, n, none⟩ = w0.cell? ⟨m, n, none⟩ := fun n => h.cell (p := ⟨m, n, none⟩) hm
  have hg' : ∀ n, w'.cell? ⟨g, n, none⟩ = w0.cell? ⟨g, n, none⟩ := fun n => h.cell (p := ⟨g, n, none⟩) hg
  simp only [hm', hg']
  exact k

def LpL (b : Int) (i : Value) : Prop := ∃ j : Nat, i = .int .i64 j ∧ j ≤ 102 ∧ ∀ k, k < j → (Opx.all.getD k default).byte ≠ b

set_option maxHeartbeats 4000000 in
set_option maxRecDepth 100000 in
theorem walk_OpLooks (b : Int) (w : World) (hb : (Lit.int .i64 b).wf = true) (hN : Nam w) :
    Calls Tryd.prog 3 #[.int .i64 b] w fun e w' => e = .returned (.bool true) ∧ Below w.heap.size w w' := by
  have hbd := bounds_i64 hb
  have HU := Lib.hid (up_any w hN)
  have HFl := Lib.hid (Float_any b)
  have HAll := Lib.hid All_any
  have HS0 := Lib.hid (fun w => Same_none 0 0 0 0 ⟨#[]⟩ false none none 0 0 w)
  by_cases hf : Opx.flt b = true
  · have HL := Lib.hid (fun w => Look_flt b w hf)
    have hq := fun w => run_eql_code w 3 3
    rw [hf] at HFl
    unfold noV at HL
    clear hf hN hb hbd HAll
    go_enter Tryd.func3, Tryd.ntmps3
    go_wp2_with (first
      | (go_at_call 7; refine HU.out.mono ?_; rintro e w1 ⟨rfl, hb1⟩; have h1 := Lib.hid hb1; have hz1 := hb1.size; clear hb1)
      | (go_at_call 8; refine (HL.out _).mono ?_; rintro e w2 ⟨rfl, hb2⟩; have h2 := Lib.hid (h1.out.trans (hb2.mono hz1)); have hz2 := Nat.le_trans hz1 hb2.size; clear hb2)
      | (go_at_call 9; refine (HFl.out _).mono ?_; rintro e w3 ⟨rfl, rfl⟩)
      | (go_at_call 10; refine (HS0.out _).mono ?_; rintro e w4 ⟨rfl, hb4⟩; have h4 := Lib.hid ((h2.out.alloc hz2 _).trans (hb4.mono (by simp; omega))); clear hb4))
    go_ret
    exact ⟨rfl, h4.out⟩
  have hf' : Opx.flt b = false := by simpa using hf
  rw [hf'] at HFl
  clear hf
  by_cases hn : Opx.nm b = []
  · have HL := Lib.hid (fun w1 (h1 : Below w.heap.size w w1) => Look_none b w1 (hN.below h1) (by omega) (by omega) hf' hn)
    have hq := fun w => run_eql_code w 5 5
    unfold noV at HL
    clear hf' hN hb hbd
    go_enter Tryd.func3, Tryd.ntmps3
    go_wp2_with (first
      | (go_at_call 7; refine HU.out.mono ?_; rintro e w1 ⟨rfl, hb1⟩; have h1 := Lib.hid hb1; have hz1 := hb1.size; clear hb1)
      | (go_at_call 8; refine (HL.out _ h1.out).mono ?_; rintro e w2 ⟨rfl, hb2⟩; have h2 := Lib.hid (h1.out.trans (hb2.mono hz1)); have hz2 := Nat.le_trans hz1 hb2.size; clear hb2)
      | (go_at_call 9; refine (HFl.out _).mono ?_; rintro e w3 ⟨rfl, rfl⟩)
      | (go_at_call 11; refine (HAll.out _).mono ?_; rintro e w3 ⟨v, rfl, ho⟩; obtain ⟨hlt, k0, k1, k2, k3, k4, k5, k6, kf⟩ := seven ho.below; obtain ⟨g, c, hv, -, hg, hc1, hc2, hcell⟩ := ho.lt (by rw [all_length]; omega); rw [all_length] at hv hc1 hcell; subst hv; have HC := Lib.hid hcell; have h3 := Lib.hid ((h2.out.alloc hz2 _).trans (ho.below.mono (by simp; omega))); have hz3 := ho.le; simp at hz3; clear ho hcell))
    go_loop [8] (LpL b) (fun i => 102 - (intOf i).toNat)
    case atStart => exact ⟨0, rfl, by omega, fun k hk => absurd hk (by omega)⟩
    case round =>
      obtain ⟨j, rfl, hj, hall⟩ := hrel
      have HH := Lib.hid hall
      clear hall
      by_cases hjl : j < 102
      · have hcj : w3.cell? ⟨g, j * 5, none⟩ = some (.int .i64 (Opx.all.getD j default).byte) := HC.out j 0 hjl (by omega)
        obtain ⟨x, hx⟩ : ∃ x, x = (Opx.all.getD j default).byte := ⟨_, rfl⟩
        rw [← hx] at hcj
        have hxb : x ≠ b := by
          intro e
          rw [List.getD_eq_getElem?_getD, List.getElem?_eq_getElem (by rw [all_length]; exact hjl)] at hx
          have := (all_named _ (List.getElem_mem (by rw [all_length]; exact hjl : j < Opx.all.length))).1
          apply this
          rw [← e, hx] at hn
          exact hn
        have HX := Lib.hid hx
        have tx : (x == b) = false := by simpa using hxb
        clear hx hn
        go_wp2
        go_round
        case rel => exact ⟨j + 1, by go_num, by omega, fun k hk => by
          rcases Nat.lt_or_ge k j with h | h
          · exact HH.out k h
          · obtain rfl : k = j := by omega
            rw [← HX.out]; exact hxb⟩
        case measure => simp [intOf]; omega
      · obtain rfl : j = 102 := by omega
        clear hjl hj
        go_wp2_with (go_at_call 10; refine (HS0.out _).mono ?_; rintro e w4 ⟨rfl, hb4⟩; have h4 := Lib.hid (h3.out.trans (hb4.mono (by omega))); clear hb4)
        go_ret
        exact ⟨rfl, h4.out⟩
  have hlk := hn
  have HN := Lib.hid hn
  have HL := Lib.hid (fun w1 (h1 : Below w.heap.size w w1) => Look_op b w1 (hN.below h1) hn hf')
  have hts := tk_short b
  have hM0 := Lib.hid Made_row
  obtain ⟨zs, hzs⟩ : ∃ zs, zs = Opx.tk b := ⟨_, rfl⟩
  have HM := Lib.hid (fun (r : Opx.R) (hr : r ∈ Opx.all) (e : r.byte = b) (w : World) => show Calls Tryd.prog 12 #[.agg #[.int .i64 b, .string ⟨r.name.toArray⟩, .int .i64 r.kind, .string ⟨r.types.toArray⟩, .int .i64 r.bytes]] w fun e w' =>
      ∃ A c, e = .returned (opV b (.slice A zs.length c)) ∧ Own w.heap.size w w' 3 (.slice A zs.length c) (i64s zs) by
    rw [hzs, ← e]; exact hM0.out r hr w)
  rw [← hzs] at HL hts
  unfold opV at HL HM
  have HS := Lib.hid (fun (w : World) (A1 A2 : Option Addr) (c1 c2 : Nat) (h1 : Sl w w.heap.size A1 (i64s zs)) (h2 : Sl w w.heap.size A2 (i64s zs)) => Same_any b (Opx.kd b) (Opx.gv b) (Opx.by_ b) (Opx.nmB b) (Opx.sn b) A1 A2 c1 c2 zs w hts h1 h2)
  clear hts hN hb hbd hzs hf' hn hM0 hlk HS0
  go_enter Tryd.func3, Tryd.ntmps3
  go_wp2_with (first
    | (go_at_call 7; refine HU.out.mono ?_; rintro e w1 ⟨rfl, hb1⟩; have h1 := Lib.hid hb1; have hz1 := hb1.size; clear hb1)
    | (go_at_call 8; refine (HL.out _ h1.out).mono ?_; rintro e w2 ⟨A1, c1, rfl, ho1⟩; have h2 := Lib.hid (h1.out.trans (ho1.below.mono hz1)); have hz2 := Nat.le_trans hz1 ho1.le; have hs1 := Lib.hid ho1.sl; clear ho1)
    | (go_at_call 9; refine (HFl.out _).mono ?_; rintro e w3 ⟨rfl, rfl⟩)
    | (go_at_call 11; refine (HAll.out _).mono ?_; rintro e w3 ⟨v, rfl, ho⟩; obtain ⟨hlt, k0, k1, k2, k3, k4, k5, k6, kf⟩ := seven ho.below; obtain ⟨g, c, hv, -, hg, hc1, hc2, hcell⟩ := ho.lt (by rw [all_length]; omega); rw [all_length] at hv hc1 hcell; subst hv; have HC := Lib.hid hcell; have h3 := Lib.hid ((h2.out.alloc hz2 _).trans (ho.below.mono (by simp; omega))); have hs3 := Lib.hid ((hs1.out.below ((Below.refl _ _).alloc (Nat.le_refl _) _)).below (ho.below.mono (by simp)) |>.more (Nat.le_of_lt hlt)); have hz3 := ho.le; simp at hz3; clear ho hcell))
  go_loop [8] (LpL b) (fun i => 102 - (intOf i).toNat)
  case atStart => exact ⟨0, rfl, by omega, fun k hk => absurd hk (by omega)⟩
  case round =>
    obtain ⟨j, rfl, hj, hall⟩ := hrel
    have HH := Lib.hid hall
    clear hall
    by_cases hjl : j < 102
    · have hjl' : j < Opx.all.length := by rw [all_length]; exact hjl
      obtain ⟨r, hr⟩ : ∃ r, r = Opx.all.getD j default := ⟨_, rfl⟩
      have hmem : r ∈ Opx.all := by rw [hr, List.getD_eq_getElem?_getD, List.getElem?_eq_getElem hjl']; exact List.getElem_mem hjl'
      have hC := HC.out j
      rw [← hr] at hC
      have q0 : w3.cell? ⟨g, j * 5, none⟩ = some (.int .i64 r.byte) := hC 0 hjl (by omega)
      have q1 : w3.cell? ⟨g, j * 5 + 1, none⟩ = some (.string ⟨r.name.toArray⟩) := hC 1 hjl (by omega)
      have q2 : w3.cell? ⟨g, j * 5 + 2, none⟩ = some (.int .i64 r.kind) := hC 2 hjl (by omega)
      have q3 : w3.cell? ⟨g, j * 5 + 3, none⟩ = some (.string ⟨r.types.toArray⟩) := hC 3 hjl (by omega)
      have q4 : w3.cell? ⟨g, j * 5 + 4, none⟩ = some (.int .i64 r.bytes) := hC 4 hjl (by omega)
      have HR := Lib.hid hr
      have HMem := Lib.hid hmem
      clear hr hmem hC hjl'
      by_cases hxb : r.byte = b
      · have HMr := Lib.hid (HM.out r HMem.out hxb)
        rw [hxb] at q0
        have tx : (b == b) = true := by simp
        clear hxb HM
        go_wp2
        refine wp_region_held_drew (S := fun w' => (w'.cell? ⟨w2.heap.size, 0, none⟩ = some (.int .i64 b) ∧ w'.cell? ⟨w2.heap.size, 1, none⟩ = some (.string (Opx.nmB b)) ∧ w'.cell? ⟨w2.heap.size, 2, none⟩ = some (.int .i64 (Opx.kd b)) ∧ w'.cell? ⟨w2.heap.size, 3, none⟩ = some (.slice A1 zs.length c1) ∧ w'.cell? ⟨w2.heap.size, 4, none⟩ = some (.int .i64 (Opx.gv b)) ∧ w'.cell? ⟨w2.heap.size, 5, none⟩ = some (.int .i64 (Opx.by_ b)) ∧ w'.cell? ⟨w2.heap.size, 6, none⟩ = some (.bool (Opx.sn b))) ∧
          (w'.cell? ⟨g, j * 5, none⟩ = some (.int .i64 b) ∧ w'.cell? ⟨g, j * 5 + 1, none⟩ = some (.string ⟨r.name.toArray⟩) ∧ w'.cell? ⟨g, j * 5 + 2, none⟩ = some (.int .i64 r.kind) ∧ w'.cell? ⟨g, j * 5 + 3, none⟩ = some (.string ⟨r.types.toArray⟩) ∧ w'.cell? ⟨g, j * 5 + 4, none⟩ = some (.int .i64 r.bytes))) (by kernel_rfl) ⟨⟨k0, k1, k2, k3, k4, k5, k6⟩, q0, q1, q2, q3, q4⟩ (fun hHeld => ?_)
        refine region_take 0 (some 43) (v := ?_) rfl rfl (by kernel_rfl) (by kernel_rfl) (by kernel_rfl) (fun _ _ _ h => h) (by rfl) ?_ (by assumption) ?_
        rotate_left
        · (intro w hSw; (try dsimp only at hSw); go_simp; try with_reducible rfl)
        try simp only [Act.put, List.setIfInBounds_toArray, List.set_cons_zero, List.set_cons_succ]
        refine region_take 1 (some 44) (v := ?_) rfl rfl (by kernel_rfl) (by kernel_rfl) (by kernel_rfl) (fun _ _ _ h => h) (by rfl) ?_ (by assumption) ?_
        rotate_left
        · (intro w hSw; (try dsimp only at hSw); go_simp; try with_reducible rfl)
        try simp only [Act.put, List.setIfInBounds_toArray, List.set_cons_zero, List.set_cons_succ]
        refine region_take 2 (some 45) (v := ?_) rfl rfl (by kernel_rfl) (by kernel_rfl) (by kernel_rfl) (fun _ _ _ h => h) (by rfl) ?_ (by assumption) ?_
        rotate_left
        · (intro w hSw; (try dsimp only at hSw); go_simp; try with_reducible rfl)
        try simp only [Act.put, List.setIfInBounds_toArray, List.set_cons_zero, List.set_cons_succ]
        refine region_take 3 (some 46) (v := ?_) rfl rfl (by kernel_rfl) (by kernel_rfl) (by kernel_rfl) (fun _ _ _ h => h) (by rfl) ?_ (by assumption) ?_
        rotate_left
        · (intro w hSw; (try dsimp only at hSw); go_simp; try with_reducible rfl)
        try simp only [Act.put, List.setIfInBounds_toArray, List.set_cons_zero, List.set_cons_succ]
        refine region_take 4 (some 47) (v := ?_) rfl rfl (by kernel_rfl) (by kernel_rfl) (by kernel_rfl) (fun _ _ _ h => h) (by rfl) ?_ (by assumption) ?_
        rotate_left
        · (intro w hSw; (try dsimp only at hSw); go_simp; try with_reducible rfl)
        try simp only [Act.put, List.setIfInBounds_toArray, List.set_cons_zero, List.set_cons_succ]
        refine region_take 5 (some 48) (v := ?_) rfl rfl (by kernel_rfl) (by kernel_rfl) (by kernel_rfl) (fun _ _ _ h => h) (by rfl) ?_ (by assumption) ?_
        rotate_left
        · (intro w hSw; (try dsimp only at hSw); go_simp; try with_reducible rfl)
        try simp only [Act.put, List.setIfInBounds_toArray, List.set_cons_zero, List.set_cons_succ]
        refine region_take 6 (some 49) (v := ?_) rfl rfl (by kernel_rfl) (by kernel_rfl) (by kernel_rfl) (fun _ _ _ h => h) (by rfl) ?_ (by assumption) ?_
        rotate_left
        · (intro w hSw; (try dsimp only at hSw); go_simp; try with_reducible rfl)
        try simp only [Act.put, List.setIfInBounds_toArray, List.set_cons_zero, List.set_cons_succ]
        refine region_take 7 (some 50) (v := ?_) rfl rfl (by kernel_rfl) (by kernel_rfl) (by kernel_rfl) (fun _ _ _ h => h) (by rfl) ?_ (by assumption) ?_
        rotate_left
        · (intro w hSw; (try dsimp only at hSw); go_simp; try with_reducible rfl)
        try simp only [Act.put, List.setIfInBounds_toArray, List.set_cons_zero, List.set_cons_succ]
        refine region_take 8 (some 51) (v := ?_) rfl rfl (by kernel_rfl) (by kernel_rfl) (by kernel_rfl) (fun _ _ _ h => h) (by rfl) ?_ (by assumption) ?_
        rotate_left
        · (intro w hSw; (try dsimp only at hSw); go_simp; try with_reducible rfl)
        try simp only [Act.put, List.setIfInBounds_toArray, List.set_cons_zero, List.set_cons_succ]
        refine region_take 9 (some 52) (v := ?_) rfl rfl (by kernel_rfl) (by kernel_rfl) (by kernel_rfl) (fun _ _ _ h => h) (by rfl) ?_ (by assumption) ?_
        rotate_left
        · (intro w hSw; (try dsimp only at hSw); go_simp; try with_reducible rfl)
        try simp only [Act.put, List.setIfInBounds_toArray, List.set_cons_zero, List.set_cons_succ]
        refine region_take 10 (some 53) (v := ?_) rfl rfl (by kernel_rfl) (by kernel_rfl) (by kernel_rfl) (fun _ _ _ h => h) (by rfl) ?_ (by assumption) ?_
        rotate_left
        · (intro w hSw; (try dsimp only at hSw); go_simp; try with_reducible rfl)
        try simp only [Act.put, List.setIfInBounds_toArray, List.set_cons_zero, List.set_cons_succ]
        refine wpAnyH_ready (rs := [11]) (by kernel_rfl) (by simp) ?_
        refine AllReadyH.cons rfl (fun K hK => ?_) AllReadyH.nil
        go_simp
        refine (HMr.out _).mono ?_
        rintro e wM ⟨A2, c2, rfl, hoM⟩
        have hkM := hoM.below
        have hSM := twelve hkM hlt hg ⟨⟨k0, k1, k2, k3, k4, k5, k6⟩, q0, q1, q2, q3, q4⟩
        have hsM1 := (show Sl w3.drew w3.heap.size A1 (i64s zs) from hs3.out).below hkM
        have hsM2 := hoM.sl
        have hzM : w3.heap.size ≤ wM.heap.size := hoM.le
        go_wp2_with fail
        refine hK.out _ _ hSM (fun hHeld => ?_)
        clear hK K
        try simp only [Act.put, List.setIfInBounds_toArray, List.set_cons_zero, List.set_cons_succ]
        refine wpAnyH_ready (rs := [12]) (by kernel_rfl) (by simp) ?_
        refine AllReadyH.cons rfl (fun K hK => ?_) AllReadyH.nil
        go_simp
        refine (HS.out _ A1 A2 c1 c2 (hsM1.more hzM) hsM2).mono ?_
        rintro e wS ⟨rfl, hbS⟩
        have hSS := twelve hbS (Nat.lt_of_lt_of_le hlt hzM) (Nat.lt_of_lt_of_le hg hzM) hSM
        go_wp2_with fail
        refine hK.out _ _ hSS (fun hHeld => ?_)
        clear hK K
        try simp only [Act.put, List.setIfInBounds_toArray, List.set_cons_zero, List.set_cons_succ]
        refine region_take 13 (some 56) (v := ?_) rfl rfl (by kernel_rfl) (by kernel_rfl) (by kernel_rfl) (fun _ _ _ h => h) (by rfl) ?_ (by assumption) ?_
        rotate_left
        · (intro w hSw; (try dsimp only at hSw); go_simp; try with_reducible rfl)
        try simp only [Act.put, List.setIfInBounds_toArray, List.set_cons_zero, List.set_cons_succ]
        refine region_take 14 (some 2) (v := ?_) rfl rfl (by kernel_rfl) (by kernel_rfl) (by kernel_rfl) (fun _ _ _ h => h) (by rfl) ?_ (by assumption) ?_
        rotate_left
        · (intro w hSw; (try dsimp only at hSw); go_simp; try with_reducible rfl)
        try simp only [Act.put, List.setIfInBounds_toArray, List.set_cons_zero, List.set_cons_succ]
        refine wpAnyH_done (by kernel_rfl) ?_ _
        go_wp2
        go_ret
        exact ⟨rfl, (h3.out.drew.trans (hkM.mono (show w.heap.size ≤ w3.heap.size by omega))).trans (hbS.mono (by omega))⟩
      · have tx : (r.byte == b) = false := by simpa using hxb
        go_wp2
        go_round
        case rel => exact ⟨j + 1, by go_num, by omega, fun k hk => by
          rcases Nat.lt_or_ge k j with h | h
          · exact HH.out k h
          · obtain rfl : k = j := by omega
            rw [← HR.out]; exact hxb⟩
        case measure => simp [intOf]; omega
    · exfalso
      obtain rfl : j = 102 := by omega
      obtain ⟨r, hr, hrb⟩ := all_byte b HN.out
      obtain ⟨k, hk, hk'⟩ := List.getElem_of_mem hr
      refine HH.out k (by rw [← all_length]; exact hk) ?_
      rw [List.getD_eq_getElem?_getD, List.getElem?_eq_getElem hk, hk']
      exact hrb

end Go.Proofs.YtblmhlojbjhmnaaDoor
