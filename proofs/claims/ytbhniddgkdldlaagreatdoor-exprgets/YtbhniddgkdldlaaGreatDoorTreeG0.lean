/- Contracts of the reference's number and Kind. -/
import Derived.Test.YtbhniddgkdldlaaGreatDoorTreeF0
import Derived.Test.YtbhniddgkdldlaaGreatDoorOpU
set_option linter.unusedVariables false
set_option linter.unusedSimpArgs false
namespace Go.Proofs.YtbhniddgkdldlaaGreatDoor
open Go.RowKit Trx

set_option maxRecDepth 100000 in
theorem number_any (n : Int) (w : World) : Calls Tryz.prog 35 #[.int .i64 n] w fun e w' => e = .returned (.bool (num32 n)) ∧ w = w' := by
  unfold num32
  by_cases h0 : 0 ≤ n
  · have t0 : decide (0 ≤ n) = true := by simpa using h0
    rw [t0]
    go_enter Tryz.func35, Tryz.ntmps35
    go_wp2_with fail
    go_ret
    exact ⟨by simp, rfl⟩
  · have t0 : decide (0 ≤ n) = false := by simpa using h0
    rw [t0]
    go_enter Tryz.func35, Tryz.ntmps35
    go_wp2_with fail
    go_ret
    exact ⟨by simp, rfl⟩
theorem all_length : Opx.all.length = 102 := by
  have := upTo2_len 18
  exact this
theorem all_byte (b : Int) (hn : Opx.nm b ≠ []) : ∃ r ∈ Opx.all, r.byte = b := by
  obtain ⟨j, rfl, hj, hn'⟩ := isOp_of b hn
  have := List.all_eq_true.1 Opx.all_there j (by simpa using hj)
  simp [hn'] at this
  obtain ⟨r, h1, h2⟩ := this
  exact ⟨r, h1, h2⟩
theorem all_kind (r : Opx.R) (hr : r ∈ Opx.all) : knd r.byte = r.kind := by
  have h2 := List.all_eq_true.1 Opx.all_agrees r hr
  simp only [Opx.agrees, Bool.and_eq_true, decide_eq_true_eq, beq_iff_eq] at h2
  obtain ⟨⟨⟨⟨⟨⟨⟨⟨-, -⟩, f1⟩, f2⟩, -⟩, -⟩, f5⟩, f6⟩, f7⟩ := h2
  unfold knd
  rw [if_neg (by simpa using f7), f2]
theorem knd_none (b : Int) (h : ∀ j, j < 102 → (Opx.all.getD j default).byte ≠ b) : knd b = 0 := by
  unfold knd
  rcases Classical.em (Opx.nm b = []) with h0 | h0
  · simp [h0]
  · obtain ⟨r, hr, hb⟩ := all_byte b h0
    obtain ⟨j, hj, hg⟩ := List.getElem_of_mem hr
    refine absurd ?_ (h j (by rw [all_length] at hj; exact hj))
    rw [List.getD_eq_getElem?_getD, List.getElem?_eq_getElem hj]
    simp [hg, hb]

set_option maxHeartbeats 4000000 in
set_option maxRecDepth 100000 in
theorem Kind_any (b : Int) (w : World) : Calls Tryz.prog 34 #[.int .i64 b] w fun e w' => e = .returned (.int .i64 (knd b)) ∧ Below w.heap.size w w' := by
  have HA := Lib.hid (All_any w)
  go_enter Tryz.func34, Tryz.ntmps34
  go_wp2_with (go_at_call 60; refine HA.out.mono ?_; rintro e w1 ⟨v, rfl, ho⟩; have HB := Lib.hid ho.below; obtain ⟨g, c, hv, hg1, hg2, -, -, hcell⟩ := ho.lt (by rw [all_length]; omega); rw [all_length] at hv; subst hv; have HC := Lib.hid hcell; clear ho hcell HA)
  go_loop [4] (fun i => ∃ j : Nat, i = .int .i64 j ∧ j ≤ 102 ∧ ∀ k, k < j → (Opx.all.getD k default).byte ≠ b) (fun i => 102 - (intOf i).toNat)
  case atStart => exact ⟨0, rfl, by omega, fun k hk => by omega⟩
  case round =>
    obtain ⟨j, rfl, hj, hno⟩ := hrel
    have HNo := Lib.hid hno
    clear hno
    by_cases hlt : j < 102
    · have q0 := HC.out j 0 (by rw [all_length]; exact hlt) (by omega)
      have q2 := HC.out j 2 (by rw [all_length]; exact hlt) (by omega)
      obtain ⟨r, hr⟩ : ∃ r, r = Opx.all.getD j default := ⟨_, rfl⟩
      have hmem : r ∈ Opx.all := by
        rw [hr, List.getD_eq_getElem?_getD, List.getElem?_eq_getElem (by rw [all_length]; exact hlt)]
        exact List.getElem_mem _
      have HK := Lib.hid (all_kind r hmem)
      rw [← hr] at q0 q2
      have HR := Lib.hid hr
      simp [cellsR] at q0 q2
      clear hmem hr HC
      have tl : decide ((j : Int) < 102) = true := by simp; omega
      by_cases hb : r.byte = b
      · have tb : (r.byte == b) = true := by simpa using hb
        have HBy := Lib.hid hb
        clear hb
        go_wp2_with fail
        go_ret
        exact ⟨by rw [← HBy.out, HK.out]; rfl, HB.out⟩
      · have tb : (r.byte == b) = false := by simpa using hb
        have HBy := Lib.hid hb
        clear hb
        go_wp2_with fail
        go_round
        case rel => exact ⟨j + 1, by go_num, by omega, fun k hk => by
          rcases Nat.lt_or_ge k j with h | h
          · exact HNo.out k h
          · obtain rfl : k = j := by omega
            rw [← HR.out]; exact HBy.out⟩
        case measure => simp [intOf]; omega
    · have tl : decide ((j : Int) < 102) = false := by simp; omega
      have HZ := Lib.hid (knd_none b (fun k hk => HNo.out k (by omega)))
      go_wp2_with fail
      go_ret
      exact ⟨by rw [HZ.out]; rfl, HB.out⟩
end Go.Proofs.YtbhniddgkdldlaaGreatDoor
