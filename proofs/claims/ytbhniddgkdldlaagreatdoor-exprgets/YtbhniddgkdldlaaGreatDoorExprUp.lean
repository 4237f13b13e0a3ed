/- The head of the statements of layer 6 (grommetlaw06.up) returns true; nothing that was there changes. -/
import Derived.Test.YtbhniddgkdldlaaGreatDoorExprGz
import Derived.Test.YtbhniddgkdldlaaGreatDoorExprPe
import Derived.Test.YtbhniddgkdldlaaGreatDoorExprP
set_option linter.unusedVariables false
set_option linter.unusedSimpArgs false
namespace Go.Proofs.YtbhniddgkdldlaaGreatDoor
open Go.RowKit Trx

/-- i32.const -1, as the statements' head has it. -/
def upE : Fo := .cons 65 0 0 4294967295 0 [] .nil .nil false .nil
theorem upE_rd {w w' : World} {t : TypeId} (h : w' = w.alloc (.cells #[.int .i64 65, .int .i64 0, .int .i64 0, .int .u64 4294967295, .int .i64 0, .slice none 0 0, .slice none 0 0, .slice none 0 0, .bool false] t)) :
    RdS w' w'.heap.size (some ⟨w.heap.size, 0, none⟩) upE := by
  intro _
  refine ⟨_, _, rfl, ⟨by rw [h]; simp, ⟨none, 0, none, 0, none, 0⟩, fun k hk => ?_, ⟨⟨by decide, by decide⟩, inI0, inI0, ⟨by decide, by decide⟩, inI0, by simp, by simp, Nat.zero_le _, Sl.nil_, by simp, Nat.zero_le _, by simp, Nat.zero_le _⟩, fun h => absurd rfl h, fun h => absurd rfl h⟩, trivial⟩
  rw [h, show (0 + k) = k by omega, World.cell?_alloc_at _ _ _ _ rfl]
  rfl
theorem upE_enc : enc upE ++ [11] = [65, 127, 11] := by
  have h65 : knd 65 = 10 := by decide +kernel
  have hs : Leb.putS (s32 4294967295) = [127] := by
    rw [show s32 4294967295 = -1 by decide, Leb.putS_small (by decide)]; decide
  simp only [upE, enc, eB, eP, h65]
  simp [hs, b8]
theorem upE_get : rdE [67] 0 = .error (3, 0) := by
  have hc : opChk 0 0 (67 : UInt8).toNat = 3 := by
    have hf : Opx.flt ((67 : UInt8).toNat : Int) = true := by decide +kernel
    unfold opChk
    rw [if_pos hf]
  unfold rdE
  rw [show ([67] : List UInt8).length + 1 = 1 + 1 from rfl, rdL_cons]
  unfold stepL
  rw [if_neg (by decide), hc]
  rfl
set_option maxHeartbeats 4000000 in
set_option maxRecDepth 100000 in
theorem up_any (w : World) (hN : Nam w) (hE : Et w) : Calls Tryz.prog 8 #[] w fun e w' => e = .returned (.bool true) ∧ Below w.heap.size w w' := by
  obtain ⟨w', hw'⟩ : ∃ w', w' = w.alloc (.cells #[.int .i64 65, .int .i64 0, .int .i64 0, .int .u64 4294967295, .int .i64 0, .slice none 0 0, .slice none 0 0, .slice none 0 0, .bool false] 49) := ⟨_, rfl⟩
  have hbw : Below w.heap.size w w' := by rw [hw']; exact (Below.refl _ _).alloc (Nat.le_refl _) _
  have HP := Lib.hid (Put_may upE _ 1 w' (hN.below hbw) (upE_rd hw') (by simp [len, upE, nds, maxLen]) (by decide +kernel) (by simp [upE, wt]))
  rw [upE_enc, show len upE = 1 by rfl] at HP
  rw [hw'] at HP
  have HG : Hid (∀ w2, Below w.heap.size w w2 → Calls Tryz.prog 13 #[.slice (some ⟨w2.heap.size, 0, none⟩) 1 1, .int .i64 0] (w2.alloc (.cells #[.int .u8 67] 5)) (GetP (w2.alloc (.cells #[.int .u8 67] 5)) (.error (3, 0)))) := Lib.hid fun w2 hb => by
    have hb2 : Below w.heap.size w (w2.alloc (.cells #[.int .u8 67] 5)) := hb.alloc hb.size _
    have := Get_any (some ⟨w2.heap.size, 0, none⟩) 1 [67] 0 (w2.alloc (.cells #[.int .u8 67] 5)) (hN.below hb2) (Sl.newbyte w2 67 67 rfl 5 _ rfl) (by decide) (by decide) (by decide)
    rw [List.drop_zero, upE_get] at this
    exact this
  unfold GetP at HG
  have HI := Lib.hid (fun w3 (hb : Below w.heap.size w w3) v (hs : SpotIs w3 v 0 3) => isSpot_any v 0 3 0 3 w3 (hE.below hb) hs)
  have HW := Lib.hid hw'
  have HBW := Lib.hid hbw
  clear hw' hbw hN hE
  go_enter Tryz.func8, Tryz.ntmps8
  go_wp2_with (first
    | (go_at_call 10; ((with_reducible refine HP.out.mono ?_); rintro e w2 ⟨v2, rfl, ho2⟩; rw [← HW.out] at ho2; obtain ⟨A2, c2, hv2, -, -, hs2⟩ := ho2.form2; subst hv2; have HB2 := Lib.hid (HBW.out.trans (ho2.below.mono HBW.out.size)); have HS2 := Lib.hid hs2; clear ho2 hs2))
    | (go_at_call 13; ((with_reducible refine (HG.out _ HB2.out).mono ?_); rintro e w3 ⟨v3, rfl, hs3, hb3⟩; have HB3 := Lib.hid ((HB2.out.alloc HB2.out.size _).trans (hb3.mono (by have := HB2.out.size; simp; omega))); have hcv : (convert 26 9 (.slice A2 3 c2)).run Tryz.prog w3 = .ok (.string ⟨#[65, 127, 11]⟩) w3 := run_str_of (P := Tryz.prog) (bs := [65, 127, 11]) 26 9 5 Tryz.underlying26 Tryz.underlying5 Tryz.underlying9 ((HS2.out.below ((Below.refl _ _).alloc (Nat.le_refl _) _)).below (hb3.mono (by simp))) c2; have HS3 := Lib.hid hs3; clear hs3 hb3))
    | (go_at_call 19; ((with_reducible refine (HI.out _ HB3.out _ HS3.out).mono ?_); rintro e w4 ⟨rfl, hb4⟩; have HB4 := Lib.hid (HB3.out.trans (hb4.mono HB3.out.size)); clear hb4)))
  go_ret
  exact ⟨rfl, HB4.out⟩
end Go.Proofs.YtbhniddgkdldlaaGreatDoor
