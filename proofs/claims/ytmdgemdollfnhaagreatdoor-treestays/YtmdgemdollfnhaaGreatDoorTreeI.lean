/- Contract of the statements' up. -/
import Derived.Test.YtmdgemdollfnhaaGreatDoorTreeF
namespace Go.Proofs.YtmdgemdollfnhaaGreatDoor
open Go.RowKit Trx

/-- a block of a nop, as the statements' head has it. -/
def upF : Fo := .cons 2 0 0 0 0 [] (.cons 1 0 0 0 0 [] .nil .nil false .nil) .nil false .nil
theorem up_rd {w w' : World} {t : TypeId} (h : w' = (w.alloc (.cells #[.int .i64 1, .int .i64 0, .int .i64 0, .int .u64 0, .int .i64 0, .slice none 0 0, .slice none 0 0, .slice none 0 0, .bool false] t)).alloc
    (.cells #[.int .i64 2, .int .i64 0, .int .i64 0, .int .u64 0, .int .i64 0, .slice none 0 0, .slice (some ⟨w.heap.size, 0, none⟩) 1 1, .slice none 0 0, .bool false] t)) :
    RdS w' w'.heap.size (some ⟨w.heap.size + 1, 0, none⟩) upF := by
  have hs : w'.heap.size = w.heap.size + 2 := by rw [h]; simp
  have nn : ∀ op body, (op = 1 ∨ op = 2) → len body ≤ 1 → ∀ Ab, NdNum w' w'.heap.size ⟨op, 0, 0, 0, 0, [], body, .nil, false⟩ ⟨none, 0, Ab, len body, none, 0⟩ := fun op body h1 h2 Ab =>
    ⟨by unfold inI; simp; omega, by simp [inI], by simp [inI], by simp [inU], by simp [inI], by simp, by simp, by simp, Sl.nil_, by simp, by simp [maxLen]; omega, by simp, by simp⟩
  intro _
  refine ⟨_, _, rfl, ⟨by omega, ⟨none, 0, some ⟨w.heap.size, 0, none⟩, 1, none, 0⟩, fun k hk => ?_, nn 2 _ (by simp) (by simp [len, nds]) _, fun _ => ⟨_, _, rfl, ⟨by omega, ⟨none, 0, none, 0, none, 0⟩, fun k hk => ?_, nn 1 _ (by simp) (by simp) _, fun h => absurd rfl h, fun h => absurd rfl h⟩, trivial⟩, fun h => absurd rfl h⟩, trivial⟩
  · rw [h, show (0 + k) = k by omega, show w.heap.size + 1 = (w.alloc (.cells #[.int .i64 1, .int .i64 0, .int .i64 0, .int .u64 0, .int .i64 0, .slice none 0 0, .slice none 0 0, .slice none 0 0, .bool false] t)).heap.size by simp, World.cell?_alloc_at _ _ _ _ rfl]
    rfl
  · rw [h, show (0 + k) = k by omega, World.cell?_alloc_past _ _ _ (by simp), World.cell?_alloc_at _ _ _ _ rfl]
    rfl

set_option maxHeartbeats 4000000 in
set_option maxRecDepth 100000 in
theorem up_any (w : World) (hN : Nam w) : Calls Tryz.prog 4 #[] w fun e w' => e = .returned (.bool true) ∧ Below w.heap.size w w' := by
  obtain ⟨w', hw'⟩ : ∃ w', w' = (w.alloc (.cells #[.int .i64 1, .int .i64 0, .int .i64 0, .int .u64 0, .int .i64 0, .slice none 0 0, .slice none 0 0, .slice none 0 0, .bool false] 48)).alloc
    (.cells #[.int .i64 2, .int .i64 0, .int .i64 0, .int .u64 0, .int .i64 0, .slice none 0 0, .slice (some ⟨w.heap.size, 0, none⟩) 1 1, .slice none 0 0, .bool false] 48) := ⟨_, rfl⟩
  have hbw : Below w.heap.size w w' := by rw [hw']; exact ((Below.refl _ _).alloc (Nat.le_refl _) _).alloc (by simp) _
  have hrd := up_rd hw'
  have HC := Lib.hid (Count_any _ upF _ 1 w' (Nat.le_refl _) (hN.below hbw) hrd (by simp [len, upF, nds, maxLen]))
  have HM := Lib.hid (fun w'' (h : Below w'.heap.size w' w'') => May_any _ upF _ 1 w'' (Nat.le_refl _) (hN.below (hbw.trans (h.mono hbw.size))) (hrd.later h) (by simp [len, upF, nds, maxLen]))
  rw [show len upF = 1 by rfl] at HC HM
  rw [show dp upF = 1 by unfold upF; simp [dp, isBlk, up1, wrap64]; rfl, show wrap64 (cnt upF) = 2 by unfold upF; simp [cnt, wrap64]] at HC
  rw [show may upF = true by decide +kernel] at HM
  rw [hw'] at HC
  have HW := Lib.hid hw'
  have HBW := Lib.hid hbw
  clear hw' hbw hrd hN
  go_enter Tryz.func4, Tryz.ntmps4
  go_wp2_with (first
    | (go_at_call 11; ((with_reducible refine HC.out.mono ?_); rintro e w1 ⟨rfl, hb1⟩; rw [← HW.out] at hb1; have HB1 := Lib.hid hb1; clear hb1))
    | (go_at_call 12; ((with_reducible refine (HM.out _ HB1.out).mono ?_); rintro e w2 ⟨rfl, hb2⟩; have HB2 := Lib.hid (HB1.out.trans (hb2.mono HB1.out.size)); clear hb2)))
  go_ret
  exact ⟨rfl, HBW.out.trans (HB2.out.mono HBW.out.size)⟩

theorem wr_parts (a b : Nat) : wrap64 (wrap64 (a : Int) + wrap64 (b : Int)) = wrap64 ((a + b : Nat) : Int) := by unfold wrap64; omega

end Go.Proofs.YtmdgemdollfnhaaGreatDoor
