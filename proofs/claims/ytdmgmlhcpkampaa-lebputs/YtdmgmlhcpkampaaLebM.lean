/- The walk of LebPuts: it returns true, whatever the input; nothing that was there changes. -/
import Derived.Test.YtdmgmlhcpkampaaLebL
import Derived.Deep.RegionWith
namespace Go.Proofs.Ytdmgmlhcpkampaa
open Go.RowKit

theorem Leb.padU_Z : ∀ (n v : Nat), Leb.padU v n = Leb.padZ v n
  | 0, v => by rw [Leb.padU, Leb.padZ]; congr 2
  | n + 1, v => by rw [Leb.padU, Leb.padZ, Leb.padU_Z n (v / 128)]; congr 1

set_option maxHeartbeats 4000000 in
set_option maxRecDepth 100000 in
theorem walk_LebPuts (a : Int) (w : World) (ha : (Lit.int .u64 a).wf = true) :
    Calls Try.prog 4 #[.int .u64 a] w fun e w' => e = .returned (.bool true) ∧ Below w.heap.size w w' := by
  obtain ⟨h1, h2⟩ := bounds_u64 ha
  obtain ⟨v, rfl⟩ := Int.eq_ofNat_of_zero_le h1
  clear ha h1
  have hne := fun wx x y => run_neq_code wx x y
  obtain ⟨z1, z2, z3⟩ := wrap64_back v (by omega)
  obtain ⟨z, hz⟩ : ∃ z, z = wrap64 v := ⟨_, rfl⟩
  rw [← hz] at z1 z2 z3
  have HZ := Lib.hid hz
  clear hz z3
  have hP1 := fun wx => Put_any v false wx (by omega)
  have hP2 := fun wx => Put_any v true wx (by omega)
  simp only [Bool.false_eq_true, if_false, if_true] at hP1 hP2
  rw [← HZ.out] at hP2
  have HP1 := Lib.hid hP1
  have HP2 := Lib.hid hP2
  clear hP1 hP2
  by_cases hv : 4294967295 < v
  · have hv' : (4294967295 : Int) < (v : Int) := by omega
    go_enter Try.func4, Try.ntmps4
    go_wp2_with fail
    with_reducible refine (up_any _).mono ?_
    rintro e w1 ⟨rfl, hb1⟩
    go_wp2_with fail
    with_reducible refine (Pad_bad _ _ hv).mono ?_
    rintro e w2 ⟨rfl, rfl⟩
    go_wp2_with fail
    have hvN : v < 18446744073709551616 := by omega
    have HVN := Lib.hid hvN
    clear hvN
    go_region_with (first
      | (go_at_call 14; refine (PutU_any v _ HVN.out).mono ?_; rintro e wU ⟨sU, rfl, hownU⟩; obtain ⟨AU, cU, rfl, _, _, hslU⟩ := hownU.bytes; have hcvU := run_str_of (P := Try.prog) 22 9 5 Try.underlying22 Try.underlying5 Try.underlying9 hslU cU; have hbU := hb1.drew.trans (hownU.below.mono hb1.drew.size))
      | (go_at_call_of 15 (Value.bool false); refine (HP1.out _).mono ?_; rintro e wP ⟨AP, cP, rfl, hslP, hbP⟩; have hcvP := run_str_of (P := Try.prog) 22 9 5 Try.underlying22 Try.underlying5 Try.underlying9 hslP cP; have hcvU2 := run_str_of (P := Try.prog) 22 9 5 Try.underlying22 Try.underlying5 Try.underlying9 (hslU.below hbP) cU; have hbP2 := hbU.trans (hbP.mono hbU.size))
      | (go_at_call 16; rw [IntWalk.i64_left, ← HZ.out]; refine (PutS_any z _ z1 z2).mono ?_; rintro e wS ⟨sS, rfl, hownS⟩; obtain ⟨AS, cS, rfl, _, _, hslS⟩ := hownS.bytes; have hcvS := run_str_of (P := Try.prog) 22 9 5 Try.underlying22 Try.underlying5 Try.underlying9 hslS cS; have hbS := hbP2.trans (hownS.below.mono hbP2.size))
      | (go_at_call_of 15 (Value.bool true); refine (HP2.out _).mono ?_; rintro e wQ ⟨AQ, cQ, rfl, hslQ, hbQ⟩; have hcvQ := run_str_of (P := Try.prog) 22 9 5 Try.underlying22 Try.underlying5 Try.underlying9 hslQ cQ; have hcvS2 := run_str_of (P := Try.prog) 22 9 5 Try.underlying22 Try.underlying5 Try.underlying9 (hslS.below hbQ) cS; have hbQ2 := hbS.trans (hbQ.mono hbS.size)))
    all_goals
      go_wp2
      go_ret
      exact ⟨rfl, hbQ2⟩
  · have hv' : ¬ (4294967295 : Int) < (v : Int) := by omega
    have hlen := Leb.padU_length 4 v
    have hr := Leb.pad_read v (by omega)
    have HVN := Lib.hid (show v < 18446744073709551616 by omega)
    go_enter Try.func4, Try.ntmps4
    go_wp2_with fail
    with_reducible refine (up_any _).mono ?_
    rintro e w0 ⟨rfl, hb0⟩
    go_wp2_with fail
    with_reducible refine (Pad_any v _ (by omega)).mono ?_
    rintro e w2 ⟨s, rfl, hown⟩
    obtain ⟨A, c, rfl, hc1, hc2, hsl⟩ := hown.bytes
    have hb2 := hb0.trans (hown.below.mono hb0.size)
    have hRU := ReadU A c (Leb.padU v 4) 0 32 w2 _ hsl (Nat.le_refl _) hc1 hc2 (by decide) (by omega) (by decide) (by decide)
    rw [show (32 : Int).toNat = 32 from rfl, show (0 : Int).toNat = 0 from rfl, hr, hlen] at hRU
    have HRU := Lib.hid hRU
    rw [hlen]
    clear hown hsl hr hlen hc1 hRU
    go_wp2_with fail
    with_reducible refine HRU.out.mono ?_
    rintro e w1 ⟨rfl, hb1a⟩
    have hb1 := hb2.trans (hb1a.mono hb2.size)
    unfold rV
    clear HRU hb1a
    go_wp2_with fail
    go_region_with (first
      | (go_at_call 14; refine (PutU_any v _ HVN.out).mono ?_; rintro e wU ⟨sU, rfl, hownU⟩; obtain ⟨AU, cU, rfl, _, _, hslU⟩ := hownU.bytes; have hcvU := run_str_of (P := Try.prog) 22 9 5 Try.underlying22 Try.underlying5 Try.underlying9 hslU cU; have hbU := hb1.drew.trans (hownU.below.mono hb1.drew.size))
      | (go_at_call_of 15 (Value.bool false); refine (HP1.out _).mono ?_; rintro e wP ⟨AP, cP, rfl, hslP, hbP⟩; have hcvP := run_str_of (P := Try.prog) 22 9 5 Try.underlying22 Try.underlying5 Try.underlying9 hslP cP; have hcvU2 := run_str_of (P := Try.prog) 22 9 5 Try.underlying22 Try.underlying5 Try.underlying9 (hslU.below hbP) cU; have hbP2 := hbU.trans (hbP.mono hbU.size))
      | (go_at_call 16; rw [IntWalk.i64_left, ← HZ.out]; refine (PutS_any z _ z1 z2).mono ?_; rintro e wS ⟨sS, rfl, hownS⟩; obtain ⟨AS, cS, rfl, _, _, hslS⟩ := hownS.bytes; have hcvS := run_str_of (P := Try.prog) 22 9 5 Try.underlying22 Try.underlying5 Try.underlying9 hslS cS; have hbS := hbP2.trans (hownS.below.mono hbP2.size))
      | (go_at_call_of 15 (Value.bool true); refine (HP2.out _).mono ?_; rintro e wQ ⟨AQ, cQ, rfl, hslQ, hbQ⟩; have hcvQ := run_str_of (P := Try.prog) 22 9 5 Try.underlying22 Try.underlying5 Try.underlying9 hslQ cQ; have hcvS2 := run_str_of (P := Try.prog) 22 9 5 Try.underlying22 Try.underlying5 Try.underlying9 (hslS.below hbQ) cS; have hbQ2 := hbS.trans (hbQ.mono hbS.size)))
    all_goals
      go_wp2
      go_ret
      exact ⟨rfl, hbQ2⟩

end Go.Proofs.Ytdmgmlhcpkampaa
