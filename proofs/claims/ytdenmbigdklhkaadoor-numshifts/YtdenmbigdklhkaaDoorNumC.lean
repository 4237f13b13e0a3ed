/- Contracts of num.turn, shift: for every value of 32 and of 64 bits. -/
import Derived.Test.YtdenmbigdklhkaaDoorNumB
import Derived.Test.YtdenmbigdklhkaaDoorNumMath2
namespace Go.Proofs.YtdenmbigdklhkaaDoor
open Go.RowKit

set_option maxHeartbeats 4000000 in
set_option maxRecDepth 100000 in
theorem turn32 (a : Int) (k : Nat) (w : World) (ha : 0 ≤ a ∧ a < 4294967296) (hk : k ≤ 32) :
    Calls Tryd.prog 44 #[.int .u64 a, .int .i64 32, .int .i64 k] w fun e w' => e = .returned (.int .u64 (Num.rot 32 a k)) ∧ ∃ nq, w' = w.drewN nq := by
  obtain ⟨a0, a1⟩ := ha
  have f1 : IntKind.i64.wrap ((32 : Int) - k) = ((32 - k : Nat) : Int) := by rw [IntWalk.i64_in _ (by omega)]; omega
  go_enter Tryd.func44, Tryd.ntmps44
  go_wp2_with fail
  go_quiet (first | (go_at_call 27; exact quiet_same (cut32 _ _ (or_range _ _).1 (or_range _ _).2)))
  go_wp2
  go_ret
  exact ⟨ret_int (Num.turn32 a k a0 a1 hk), _, rfl⟩

set_option maxHeartbeats 4000000 in
set_option maxRecDepth 100000 in
theorem shift32 (i : Nat) (a : Int) (k : Nat) (w : World) (hi : i < 5) (ha : 0 ≤ a ∧ a < 4294967296) (hk : k < 32) :
    Calls Tryd.prog 35 #[.int .i64 ((i : Int) + 116), .int .i64 32, .int .u64 a, .int .i64 k] w fun e w' => e = .returned (.int .u64 (Num.shfV i 32 a k)) ∧ ∃ nq, w' = w.drewN nq := by
  have hl : i = 0 ∨ i = 1 ∨ i = 2 ∨ i = 3 ∨ i = 4 := by omega
  have HT := Lib.hid (fun k w => turn32 a k w ha)
  have HS := Lib.hid (fun w => signed32 a w ha.1 ha.2)
  obtain ⟨s, hs⟩ : ∃ s, s = Num.sg 32 a := ⟨_, rfl⟩
  rw [← hs] at HS
  obtain ⟨a0, a1⟩ := ha
  have hsub : (32 : Int) - k = ((32 - k : Nat) : Int) := by omega
  rcases hl with rfl | rfl | rfl | rfl | rfl
  · clear hsub
    go_enter Tryd.func35, Tryd.ntmps35
    go_wp2_with (go_at_call 27; with_reducible refine (cut32 _ _ (wrap_range _).1 (wrap_range _).2).mono ?_; rintro e w' ⟨rfl, rfl⟩)
    go_ret
    refine ⟨ret_int ?_, 0, rfl⟩
    exact cutv32 _
  · clear hsub
    have Hs := Lib.hid hs
    clear hs
    go_enter Tryd.func35, Tryd.ntmps35
    go_wp2_with (first | (go_at_call 32; refine (HS.out _).mono ?_; rintro e w' ⟨rfl, rfl⟩) | (go_at_call 27; with_reducible refine (cut32 _ _ (wrap_range _).1 (wrap_range _).2).mono ?_; rintro e w' ⟨rfl, rfl⟩))
    go_ret
    refine ⟨ret_int ?_, 0, rfl⟩
    show _ = Num.sg 32 a / 2 ^ k % 2 ^ 32
    rw [← Hs.out]
    exact cutv32 _
  · clear hsub
    go_enter Tryd.func35, Tryd.ntmps35
    go_wp2
    go_ret
    exact ⟨rfl, 0, rfl⟩
  · clear hsub
    go_enter Tryd.func35, Tryd.ntmps35
    go_wp2_with (go_at_call 44; with_reducible refine (HT.out _ _ (by omega)).mono ?_; rintro e w' ⟨rfl, nq, rfl⟩)
    go_ret
    exact ⟨rfl, _, rfl⟩
  · go_enter Tryd.func35, Tryd.ntmps35
    go_wp2_with (go_at_call 44; with_reducible refine (HT.out _ _ (by omega)).mono ?_; rintro e w' ⟨rfl, nq, rfl⟩)
    go_ret
    exact ⟨rfl, _, rfl⟩

set_option maxHeartbeats 4000000 in
set_option maxRecDepth 100000 in
theorem turn64 (a : Int) (k : Nat) (w : World) (ha : 0 ≤ a ∧ a < 18446744073709551616) (hk : k ≤ 64) :
    Calls Tryd.prog 44 #[.int .u64 a, .int .i64 64, .int .i64 k] w fun e w' => e = .returned (.int .u64 (Num.rot 64 a k)) ∧ ∃ nq, w' = w.drewN nq := by
  obtain ⟨a0, a1⟩ := ha
  have f1 : IntKind.i64.wrap ((64 : Int) - k) = ((64 - k : Nat) : Int) := by rw [IntWalk.i64_in _ (by omega)]; omega
  go_enter Tryd.func44, Tryd.ntmps44
  go_wp2_with fail
  go_quiet (first | (go_at_call 27; exact quiet_same (cut64 _ _ (or_range _ _).1 (or_range _ _).2)))
  go_wp2
  go_ret
  exact ⟨ret_int (Num.turn64 a k a0 a1 hk), _, rfl⟩

set_option maxHeartbeats 4000000 in
set_option maxRecDepth 100000 in
theorem shift64 (i : Nat) (a : Int) (k : Nat) (w : World) (hi : i < 5) (ha : 0 ≤ a ∧ a < 18446744073709551616) (hk : k < 64) :
    Calls Tryd.prog 35 #[.int .i64 ((i : Int) + 116), .int .i64 64, .int .u64 a, .int .i64 k] w fun e w' => e = .returned (.int .u64 (Num.shfV i 64 a k)) ∧ ∃ nq, w' = w.drewN nq := by
  have hl : i = 0 ∨ i = 1 ∨ i = 2 ∨ i = 3 ∨ i = 4 := by omega
  have HT := Lib.hid (fun k w => turn64 a k w ha)
  have HS := Lib.hid (fun w => signed64 a w ha.1 ha.2)
  obtain ⟨s, hs⟩ : ∃ s, s = Num.sg 64 a := ⟨_, rfl⟩
  rw [← hs] at HS
  obtain ⟨a0, a1⟩ := ha
  have hsub : (64 : Int) - k = ((64 - k : Nat) : Int) := by omega
  rcases hl with rfl | rfl | rfl | rfl | rfl
  · clear hsub
    go_enter Tryd.func35, Tryd.ntmps35
    go_wp2_with (go_at_call 27; with_reducible refine (cut64 _ _ (wrap_range _).1 (wrap_range _).2).mono ?_; rintro e w' ⟨rfl, rfl⟩)
    go_ret
    refine ⟨ret_int ?_, 0, rfl⟩
    exact cutv64 _
  · clear hsub
    have Hs := Lib.hid hs
    clear hs
    go_enter Tryd.func35, Tryd.ntmps35
    go_wp2_with (first | (go_at_call 32; refine (HS.out _).mono ?_; rintro e w' ⟨rfl, rfl⟩) | (go_at_call 27; with_reducible refine (cut64 _ _ (wrap_range _).1 (wrap_range _).2).mono ?_; rintro e w' ⟨rfl, rfl⟩))
    go_ret
    refine ⟨ret_int ?_, 0, rfl⟩
    show _ = Num.sg 64 a / 2 ^ k % 2 ^ 64
    rw [← Hs.out]
    exact cutv64 _
  · clear hsub
    go_enter Tryd.func35, Tryd.ntmps35
    go_wp2
    go_ret
    exact ⟨rfl, 0, rfl⟩
  · clear hsub
    go_enter Tryd.func35, Tryd.ntmps35
    go_wp2_with (go_at_call 44; with_reducible refine (HT.out _ _ (by omega)).mono ?_; rintro e w' ⟨rfl, nq, rfl⟩)
    go_ret
    exact ⟨rfl, _, rfl⟩
  · go_enter Tryd.func35, Tryd.ntmps35
    go_wp2_with (go_at_call 44; with_reducible refine (HT.out _ _ (by omega)).mono ?_; rintro e w' ⟨rfl, nq, rfl⟩)
    go_ret
    exact ⟨rfl, _, rfl⟩

end Go.Proofs.YtdenmbigdklhkaaDoor
