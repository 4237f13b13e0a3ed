/- The walk of OpFinds. -/
import Derived.Test.YtblmhlojbjhmnaaDoorOpP
namespace Go.Proofs.YtblmhlojbjhmnaaDoor
open Go.RowKit

theorem name_apart (r : Opx.R) (hr : r ∈ Opx.all) (b : Int) (hn : Opx.nm b ≠ []) : r.name = Opx.nm b ↔ r.byte = b := by
  obtain ⟨h1, h2⟩ := all_named r hr
  rw [h2]
  constructor
  · intro e
    obtain ⟨i, hi, hi', -⟩ := isOp_of b hn
    obtain ⟨j, hj, hj', -⟩ := isOp_of r.byte h1
    rw [hi, hj] at e
    have := Opx.apart j i hj' hi' (by rw [← hj]; exact h1) e
    rw [hi, hj, this]
  · intro e; rw [e]
theorem str_eq (n : List UInt8) (s x : ByteArray) (hx : x = ⟨n.toArray⟩) : (x.toList == s.toList) = decide (n = s.data.toList) := by
  subst hx
  rw [Lib.toList_data, Lib.toList_data]
  simp only [List.toList_toArray]
  by_cases h : n = s.data.toList <;> simp [h]
def LpF (l : List UInt8) (i : Value) : Prop := ∃ j : Nat, i = .int .i64 j ∧ j ≤ 102 ∧ ∀ k, k < j → (Opx.all.getD k default).name ≠ l

set_option maxHeartbeats 4000000 in
set_option maxRecDepth 100000 in
theorem walk_OpFinds (s : ByteArray) (w : World) (hsz : s.size ≤ maxLen) (hN : Nam w) :
    Calls Tryd.prog 4 #[.string s] w fun e w' => e = .returned (.bool true) ∧ Below w.heap.size w w' := by
  unfold maxLen at hsz
  have HU := Lib.hid (up_any w hN)
  by_cases h100 : 100 < s.size
  · have tl : decide ((100 : Int) < s.size) = true := by simp; omega
    clear hN
    go_enter Tryd.func4, Tryd.ntmps4
    go_wp2_with (go_at_call 7; refine HU.out.mono ?_; rintro e w1 ⟨rfl, hb1⟩; have h1 := Lib.hid hb1; clear hb1)
    go_ret
    exact ⟨rfl, h1.out⟩
  have hs : s.size ≤ 100 := by omega
  have tl : decide ((100 : Int) < s.size) = false := by simp; omega
  have HFl := Lib.hid (fun w => Floating_any s w hs)
  have HAll := Lib.hid All_any
  have HS0 := Lib.hid (fun w => Same_none 0 0 0 0 ⟨#[]⟩ false none none 0 0 w)
  obtain ⟨l, hl⟩ : ∃ l, l = s.data.toList := ⟨_, rfl⟩
  have HSE := Lib.hid (fun n x hx => str_eq n s x hx)
  rw [← hl] at HFl HSE
  rw [← Opx.fl_eq] at HFl
  clear h100 hsz
  by_cases hf : Opx.fl l = true
  · have HL := Lib.hid (fun w => Find_flt s w (by omega) (by rw [← hl]; exact hf))
    have hq := fun w => run_eql_code w 3 3
    rw [hf] at HFl
    unfold noV at HL
    clear hf hN HAll hl HSE
    go_enter Tryd.func4, Tryd.ntmps4
    go_wp2_with (first
      | (go_at_call 7; refine HU.out.mono ?_; rintro e w1 ⟨rfl, hb1⟩; have h1 := Lib.hid hb1; have hz1 := hb1.size; clear hb1)
      | (go_at_call 13; refine (HL.out _).mono ?_; rintro e w2 ⟨rfl, hb2⟩; have h2 := Lib.hid (h1.out.trans (hb2.mono hz1)); have hz2 := Nat.le_trans hz1 hb2.size; clear hb2)
      | (go_at_call 14; refine (HFl.out _).mono ?_; rintro e w3 ⟨rfl, rfl⟩)
      | (go_at_call 10; refine (HS0.out _).mono ?_; rintro e w4 ⟨rfl, hb4⟩; have h4 := Lib.hid ((h2.out.alloc hz2 _).trans (hb4.mono (by simp; omega))); clear hb4))
    go_ret
    exact ⟨rfl, h4.out⟩
  have hf' : Opx.fl l = false := by simpa using hf
  rw [hf'] at HFl
  clear hf
  by_cases hn : l = [] ∨ ∀ b : Int, Opx.nm b ≠ l
  · have HL := Lib.hid (fun w1 (h1 : Below w.heap.size w w1) => Find_none s w1 (hN.below h1) (by omega) (by rw [← hl]; exact hf') (by rw [← hl]; exact hn))
    have hq := fun w => run_eql_code w 5 5
    have HNot := Lib.hid (show ∀ r ∈ Opx.all, r.name ≠ l by
      intro r hr e
      obtain ⟨h1, h2⟩ := all_named r hr
      rcases hn with hn | hn
      · rw [hn] at e; rw [e] at h2; exact h1 h2.symm
      · exact hn r.byte (by rw [← h2]; exact e))
    unfold noV at HL
    clear hf' hN hl hn
    go_enter Tryd.func4, Tryd.ntmps4
    go_wp2_with (first
      | (go_at_call 7; refine HU.out.mono ?_; rintro e w1 ⟨rfl, hb1⟩; have h1 := Lib.hid hb1; have hz1 := hb1.size; clear hb1)
      | (go_at_call 13; refine (HL.out _ h1.out).mono ?_; rintro e w2 ⟨rfl, hb2⟩; have h2 := Lib.hid (h1.out.trans (hb2.mono hz1)); have hz2 := Nat.le_trans hz1 hb2.size; clear hb2)
      | (go_at_call 14; refine (HFl.out _).mono ?_; rintro e w3 ⟨rfl, rfl⟩)
      | (go_at_call 11; refine (HAll.out _).mono ?_; rintro e w3 ⟨v, rfl, ho⟩; obtain ⟨hlt, k0, k1, k2, k3, k4, k5, k6, kf⟩ := seven ho.below; obtain ⟨g, c, hv, -, hg, hc1, hc2, hcell⟩ := ho.lt (by rw [all_length]; omega); rw [all_length] at hv hc1 hcell; subst hv; have HC := Lib.hid hcell; have h3 := Lib.hid ((h2.out.alloc hz2 _).trans (ho.below.mono (by simp; omega))); have hz3 := ho.le; simp at hz3; clear ho hcell))
    go_loop [8] (LpF l) (fun i => 102 - (intOf i).toNat)
    case atStart => exact ⟨0, rfl, by omega, fun k hk => absurd hk (by omega)⟩
    case round =>
      obtain ⟨j, rfl, hj, hall⟩ := hrel
      have HH := Lib.hid hall
      clear hall
      by_cases hjl : j < 102
      · have hcj : w3.cell? ⟨g, j * 5 + 1, none⟩ = some (.string ⟨(Opx.all.getD j default).name.toArray⟩) := HC.out j 1 hjl (by omega)
        obtain ⟨x, hx⟩ : ∃ x : ByteArray, x = ⟨(Opx.all.getD j default).name.toArray⟩ := ⟨_, rfl⟩
        rw [← hx] at hcj
        have hjl' : j < Opx.all.length := by rw [all_length]; exact hjl
        have hnx : (Opx.all.getD j default).name ≠ l := HNot.out _ (by rw [List.getD_eq_getElem?_getD, List.getElem?_eq_getElem hjl']; exact List.getElem_mem hjl')
        have tx : (x.toList == s.toList) = false := by rw [HSE.out _ x hx]; simpa using hnx
        have HX := Lib.hid hnx
        clear hx hnx hjl'
        go_wp2
        go_round
        case rel => exact ⟨j + 1, by go_num, by omega, fun k hk => by
          rcases Nat.lt_or_ge k j with h | h
          · exact HH.out k h
          · obtain rfl : k = j := by omega
            exact HX.out⟩
        case measure => simp [intOf]; omega
      · obtain rfl : j = 102 := by omega
        clear hjl hj
        go_wp2_with (go_at_call 10; refine (HS0.out _).mono ?_; rintro e w4 ⟨rfl, hb4⟩; have h4 := Lib.hid (h3.out.trans (hb4.mono (by omega))); clear hb4)
        go_ret
        exact ⟨rfl, h4.out⟩
  obtain ⟨hne, b, hbl⟩ : l ≠ [] ∧ ∃ b : Int, Opx.nm b = l := by
    refine ⟨fun h => hn (.inl h), ?_⟩
    rcases Classical.em (∃ b : Int, Opx.nm b = l) with h | h
    · exact h
    · exact absurd (.inr fun b e => h ⟨b, e⟩) hn
  have hnb : Opx.nm b ≠ [] := by rw [hbl]; exact hne
  have HN := Lib.hid hnb
  have HBL := Lib.hid hbl
  have HL := Lib.hid (fun w1 (h1 : Below w.heap.size w w1) => Find_op b s w1 (hN.below h1) hnb (by rw [← hl, hbl]))
  have hts := tk_short b
  have hM0 := Lib.hid Made_row
  obtain ⟨zs, hzs⟩ : ∃ zs, zs = Opx.tk b := ⟨_, rfl⟩
  have HM := Lib.hid (fun (r : Opx.R) (hr : r ∈ Opx.all) (e : r.byte = b) (w : World) => show Calls Tryd.prog 12 #[.agg #[.int .i64 b, .string ⟨r.name.toArray⟩, .int .i64 r.kind, .string ⟨r.types.toArray⟩, .int .i64 r.bytes]] w fun e w' =>
      ∃ A c, e = .returned (opV b (.slice A zs.length c)) ∧ Own w.heap.size w w' 3 (.slice A zs.length c) (i64s zs) by
    rw [hzs, ← e]; exact hM0.out r hr w)
  rw [← hzs] at HL hts
  unfold opV at HL HM
  have HS := Lib.hid (fun (w : World) (A1 A2 : Option Addr) (c1 c2 : Nat) (h1 : Sl w w.heap.size A1 (i64s zs)) (h2 : Sl w w.heap.size A2 (i64s zs)) => Same_any b (Opx.kd b) (Opx.gv b) (Opx.by_ b) (Opx.nmB b) (Opx.sn b) A1 A2 c1 c2 zs w hts h1 h2)
  clear hts hN hl hzs hf' hn hM0 hnb hbl hne HS0
  go_enter Tryd.func4, Tryd.ntmps4
  go_wp2_with (first
    | (go_at_call 7; refine HU.out.mono ?_; rintro e w1 ⟨rfl, hb1⟩; have h1 := Lib.hid hb1; have hz1 := hb1.size; clear hb1)
    | (go_at_call 13; refine (HL.out _ h1.out).mono ?_; rintro e w2 ⟨A1, c1, rfl, ho1⟩; have h2 := Lib.hid (h1.out.trans (ho1.below.mono hz1)); have hz2 := Nat.le_trans hz1 ho1.le; have hs1 := Lib.hid ho1.sl; clear ho1)
    | (go_at_call 14; refine (HFl.out _).mono ?_; rintro e w3 ⟨rfl, rfl⟩)
    | (go_at_call 11; refine (HAll.out _).mono ?_; rintro e w3 ⟨v, rfl, ho⟩; obtain ⟨hlt, k0, k1, k2, k3, k4, k5, k6, kf⟩ := seven ho.below; obtain ⟨g, c, hv, -, hg, hc1, hc2, hcell⟩ := ho.lt (by rw [all_length]; omega); rw [all_length] at hv hc1 hcell; subst hv; have HC := Lib.hid hcell; have h3 := Lib.hid ((h2.out.alloc hz2 _).trans (ho.below.mono (by simp; omega))); have hs3 := Lib.hid ((hs1.out.below ((Below.refl _ _).alloc (Nat.le_refl _) _)).below (ho.below.mono (by simp)) |>.more (Nat.le_of_lt hlt)); have hz3 := ho.le; simp at hz3; clear ho hcell))
  go_loop [8] (LpF l) (fun i => 102 - (intOf i).toNat)
  case atStart => exact ⟨0, rfl, by omega, fun k hk => absurd hk (by omega)⟩
  case round =>
    obtain ⟨j, rfl, hj, hall⟩ := hrel
    have HH := Lib.hid hall
    clear hall
    by_cases hjl : j < 102
    · have hjl' : j < Opx.all.length := by rw [all_length]; exact hjl
      obtain ⟨r, hr⟩ : ∃ r, r = Opx.all.getD j default := ⟨_, rfl⟩
      have hmem : r ∈ Opx.all := by rw [hr, List.getD_eq_getElem?_getD, List.getElem?_eq_getElem hjl']; exact List.getElem_mem hjl'
      have hC := HC.out j
      rw [← hr] at hC
      have q0 : w3.cell? ⟨g, j * 5, none⟩ = some (.int .i64 r.byte) := hC 0 hjl (by omega)
      have q1 : w3.cell? ⟨g, j * 5 + 1, none⟩ = some (.string ⟨r.name.toArray⟩) := hC 1 hjl (by omega)
      have q2 : w3.cell? ⟨g, j * 5 + 2, none⟩ = some (.int .i64 r.kind) := hC 2 hjl (by omega)
      have q3 : w3.cell? ⟨g, j * 5 + 3, none⟩ = some (.string ⟨r.types.toArray⟩) := hC 3 hjl (by omega)
      have q4 : w3.cell? ⟨g, j * 5 + 4, none⟩ = some (.int .i64 r.bytes) := hC 4 hjl (by omega)
      have HR := Lib.hid hr
      have HMem := Lib.hid hmem
      clear hr hmem hC hjl'
      obtain ⟨x, hx⟩ : ∃ x : ByteArray, x = ⟨r.name.toArray⟩ := ⟨_, rfl⟩
      have hxe := HSE.out _ x hx
      rw [← hx] at q1
      by_cases hxb : r.byte = b
      · have HMr := Lib.hid (HM.out r HMem.out hxb)
        rw [hxb] at q0
        rw [← hx] at HMr
        have tx : (x.toList == s.toList) = true := by rw [hxe, decide_eq_true_eq, ← HBL.out]; exact (name_apart r HMem.out b HN.out).2 hxb
        clear hxb HM hxe hx
        go_wp2
        refine wp_region_held_drew (S := fun w' => (w'.cell? ⟨w2.heap.size, 0, none⟩ = some (.int .i64 b) ∧ w'.cell? ⟨w2.heap.size, 1, none⟩ = some (.string (Opx.nmB b)) ∧ w'.cell? ⟨w2.heap.size, 2, none⟩ = some (.int .i64 (Opx.kd b)) ∧ w'.cell? ⟨w2.heap.size, 3, none⟩ = some (.slice A1 zs.length c1) ∧ w'.cell? ⟨w2.heap.size, 4, none⟩ = some (.int .i64 (Opx.gv b)) ∧ w'.cell? ⟨w2.heap.size, 5, none⟩ = some (.int .i64 (Opx.by_ b)) ∧ w'.cell? ⟨w2.heap.size, 6, none⟩ = some (.bool (Opx.sn b))) ∧
          (w'.cell? ⟨g, j * 5, none⟩ = some (.int .i64 b) ∧ w'.cell? ⟨g, j * 5 + 1, none⟩ = some (.string x) ∧ w'.cell? ⟨g, j * 5 + 2, none⟩ = some (.int .i64 r.kind) ∧ w'.cell? ⟨g, j * 5 + 3, none⟩ = some (.string ⟨r.types.toArray⟩) ∧ w'.cell? ⟨g, j * 5 + 4, none⟩ = some (.int .i64 r.bytes))) (by kernel_rfl) ⟨⟨k0, k1, k2, k3, k4, k5, k6⟩, q0, q1, q2, q3, q4⟩ (fun hHeld => ?_)
        refine region_take 0 (some 47) (v := ?_) rfl rfl (by kernel_rfl) (by kernel_rfl) (by kernel_rfl) (fun _ _ _ h => h) (by rfl) ?_ (by assumption) ?_
        rotate_left
        · (intro w hSw; (try dsimp only at hSw); go_simp; try with_reducible rfl)
        try simp only [Act.put, List.setIfInBounds_toArray, List.set_cons_zero, List.set_cons_succ]
        refine region_take 1 (some 48) (v := ?_) rfl rfl (by kernel_rfl) (by kernel_rfl) (by kernel_rfl) (fun _ _ _ h => h) (by rfl) ?_ (by assumption) ?_
        rotate_left
        · (intro w hSw; (try dsimp only at hSw); go_simp; try with_reducible rfl)
        try simp only [Act.put, List.setIfInBounds_toArray, List.set_cons_zero, List.set_cons_succ]
        refine region_take 2 (some 49) (v := ?_) rfl rfl (by kernel_rfl) (by kernel_rfl) (by kernel_rfl) (fun _ _ _ h => h) (by rfl) ?_ (by assumption) ?_
        rotate_left
        · (intro w hSw; (try dsimp only at hSw); go_simp; try with_reducible rfl)
        try simp only [Act.put, List.setIfInBounds_toArray, List.set_cons_zero, List.set_cons_succ]
        refine region_take 3 (some 50) (v := ?_) rfl rfl (by kernel_rfl) (by kernel_rfl) (by kernel_rfl) (fun _ _ _ h => h) (by rfl) ?_ (by assumption) ?_
        rotate_left
        · (intro w hSw; (try dsimp only at hSw); go_simp; try with_reducible rfl)
        try simp only [Act.put, List.setIfInBounds_toArray, List.set_cons_zero, List.set_cons_succ]
        refine region_take 4 (some 51) (v := ?_) rfl rfl (by kernel_rfl) (by kernel_rfl) (by kernel_rfl) (fun _ _ _ h => h) (by rfl) ?_ (by assumption) ?_
        rotate_left
        · (intro w hSw; (try dsimp only at hSw); go_simp; try with_reducible rfl)
        try simp only [Act.put, List.setIfInBounds_toArray, List.set_cons_zero, List.set_cons_succ]
        refine region_take 5 (some 52) (v := ?_) rfl rfl (by kernel_rfl) (by kernel_rfl) (by kernel_rfl) (fun _ _ _ h => h) (by rfl) ?_ (by assumption) ?_
        rotate_left
        · (intro w hSw; (try dsimp only at hSw); go_simp; try with_reducible rfl)
        try simp only [Act.put, List.setIfInBounds_toArray, List.set_cons_zero, List.set_cons_succ]
        refine region_take 6 (some 53) (v := ?_) rfl rfl (by kernel_rfl) (by kernel_rfl) (by kernel_rfl) (fun _ _ _ h => h) (by rfl) ?_ (by assumption) ?_
        rotate_left
        · (intro w hSw; (try dsimp only at hSw); go_simp; try with_reducible rfl)
        try simp only [Act.put, List.setIfInBounds_toArray, List.set_cons_zero, List.set_cons_succ]
        refine region_take 7 (some 54) (v := ?_) rfl rfl (by kernel_rfl) (by kernel_rfl) (by kernel_rfl) (fun _ _ _ h => h) (by rfl) ?_ (by assumption) ?_
        rotate_left
        · (intro w hSw; (try dsimp only at hSw); go_simp; try with_reducible rfl)
        try simp only [Act.put, List.setIfInBounds_toArray, List.set_cons_zero, List.set_cons_succ]
        refine region_take 8 (some 55) (v := ?_) rfl rfl (by kernel_rfl) (by kernel_rfl) (by kernel_rfl) (fun _ _ _ h => h) (by rfl) ?_ (by assumption) ?_
        rotate_left
        · (intro w hSw; (try dsimp only at hSw); go_simp; try with_reducible rfl)
        try simp only [Act.put, List.setIfInBounds_toArray, List.set_cons_zero, List.set_cons_succ]
        refine region_take 9 (some 56) (v := ?_) rfl rfl (by kernel_rfl) (by kernel_rfl) (by kernel_rfl) (fun _ _ _ h => h) (by rfl) ?_ (by assumption) ?_
        rotate_left
        · (intro w hSw; (try dsimp only at hSw); go_simp; try with_reducible rfl)
        try simp only [Act.put, List.setIfInBounds_toArray, List.set_cons_zero, List.set_cons_succ]
        refine region_take 10 (some 57) (v := ?_) rfl rfl (by kernel_rfl) (by kernel_rfl) (by kernel_rfl) (fun _ _ _ h => h) (by rfl) ?_ (by assumption) ?_
        rotate_left
        · (intro w hSw; (try dsimp only at hSw); go_simp; try with_reducible rfl)
        try simp only [Act.put, List.setIfInBounds_toArray, List.set_cons_zero, List.set_cons_succ]
        refine wpAnyH_ready (rs := [11]) (by kernel_rfl) (by simp) ?_
        refine AllReadyH.cons rfl (fun K hK => ?_) AllReadyH.nil
        go_simp
        refine (HMr.out _).mono ?_
        rintro e wM ⟨A2, c2, rfl, hoM⟩
        have hkM := hoM.below
        have hSM := twelve hkM hlt hg ⟨⟨k0, k1, k2, k3, k4, k5, k6⟩, q0, q1, q2, q3, q4⟩
        have hsM1 := (show Sl w3.drew w3.heap.size A1 (i64s zs) from hs3.out).below hkM
        have hsM2 := hoM.sl
        have hzM : w3.heap.size ≤ wM.heap.size := hoM.le
        go_wp2_with fail
        refine hK.out _ _ hSM (fun hHeld => ?_)
        clear hK K
        try simp only [Act.put, List.setIfInBounds_toArray, List.set_cons_zero, List.set_cons_succ]
        refine wpAnyH_ready (rs := [12]) (by kernel_rfl) (by simp) ?_
        refine AllReadyH.cons rfl (fun K hK => ?_) AllReadyH.nil
        go_simp
        refine (HS.out _ A1 A2 c1 c2 (hsM1.more hzM) hsM2).mono ?_
        rintro e wS ⟨rfl, hbS⟩
        have hSS := twelve hbS (Nat.lt_of_lt_of_le hlt hzM) (Nat.lt_of_lt_of_le hg hzM) hSM
        go_wp2_with fail
        refine hK.out _ _ hSS (fun hHeld => ?_)
        clear hK K
        try simp only [Act.put, List.setIfInBounds_toArray, List.set_cons_zero, List.set_cons_succ]
        refine region_take 13 (some 60) (v := ?_) rfl rfl (by kernel_rfl) (by kernel_rfl) (by kernel_rfl) (fun _ _ _ h => h) (by rfl) ?_ (by assumption) ?_
        rotate_left
        · (intro w hSw; (try dsimp only at hSw); go_simp; try with_reducible rfl)
        try simp only [Act.put, List.setIfInBounds_toArray, List.set_cons_zero, List.set_cons_succ]
        refine region_take 14 (some 2) (v := ?_) rfl rfl (by kernel_rfl) (by kernel_rfl) (by kernel_rfl) (fun _ _ _ h => h) (by rfl) ?_ (by assumption) ?_
        rotate_left
        · (intro w hSw; (try dsimp only at hSw); go_simp; try with_reducible rfl)
        try simp only [Act.put, List.setIfInBounds_toArray, List.set_cons_zero, List.set_cons_succ]
        refine wpAnyH_done (by kernel_rfl) ?_ _
        go_wp2
        go_ret
        exact ⟨rfl, (h3.out.drew.trans (hkM.mono (show w.heap.size ≤ w3.heap.size by omega))).trans (hbS.mono (by omega))⟩
      · have hnx : r.name ≠ l := by
          intro e
          exact hxb ((name_apart r HMem.out b HN.out).1 (by rw [e, HBL.out]))
        have tx : (x.toList == s.toList) = false := by rw [hxe]; simpa using hnx
        have HX := Lib.hid hnx
        clear hxe hx hnx hxb
        go_wp2
        go_round
        case rel => exact ⟨j + 1, by go_num, by omega, fun k hk => by
          rcases Nat.lt_or_ge k j with h | h
          · exact HH.out k h
          · obtain rfl : k = j := by omega
            rw [← HR.out]; exact HX.out⟩
        case measure => simp [intOf]; omega
    · exfalso
      obtain rfl : j = 102 := by omega
      obtain ⟨r, hr, hrb⟩ := all_byte b HN.out
      obtain ⟨k, hk, hk'⟩ := List.getElem_of_mem hr
      refine HH.out k (by rw [← all_length]; exact hk) ?_
      rw [List.getD_eq_getElem?_getD, List.getElem?_eq_getElem hk, hk', ← HBL.out]
      exact (name_apart r hr b HN.out).2 hrb

end Go.Proofs.YtblmhlojbjhmnaaDoor
