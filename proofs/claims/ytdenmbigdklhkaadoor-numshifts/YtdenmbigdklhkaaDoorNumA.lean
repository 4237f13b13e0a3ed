/- Contracts of num.isAsk, isReckon, cut, signed, truth. -/
import Derived.Test.YtdenmbigdklhkaaDoorMem
import Derived.Test.YtdenmbigdklhkaaDoorNumMath
import Derived.Laws.BitsAllLaws
import Derived.Laws.ShiftsVarLaws
import Derived.IntWalk
namespace Go.Proofs.YtdenmbigdklhkaaDoor
open Go.RowKit

theorem ret_int {k : IntKind} {a b : Int} (h : a = b) : Ending.returned (.int k a) = .returned (.int k b) := by rw [h]
theorem ret_bool {a b : Bool} (h : a = b) : Ending.returned (.bool a) = .returned (.bool b) := by rw [h]
theorem ret2 {a b a' b' : Value} (h1 : a = a') (h2 : b = b') : Ending.returned (.tuple #[a, b]) = .returned (.tuple #[a', b']) := by rw [h1, h2]

theorem isAsk_any (op : Int) (w : World) :
    Calls Tryd.prog 25 #[.int .i64 op] w fun e w' => e = .returned (.bool (decide (69 ≤ op ∧ op ≤ 79))) ∧ w = w' := by
  by_cases h : 69 ≤ op
  · by_cases h2 : op ≤ 79
    all_goals
      go_enter Tryd.func25, Tryd.ntmps25
      go_wp2
      go_ret
      exact ⟨ret_bool (by simp; omega), rfl⟩
  · go_enter Tryd.func25, Tryd.ntmps25
    go_wp2
    go_ret
    exact ⟨ret_bool (by simp; omega), rfl⟩

theorem isReckon_any (op : Int) (w : World) :
    Calls Tryd.prog 26 #[.int .i64 op] w fun e w' => e = .returned (.bool (decide (103 ≤ op ∧ op ≤ 120))) ∧ w = w' := by
  by_cases h : 103 ≤ op
  · by_cases h2 : op ≤ 120
    all_goals
      go_enter Tryd.func26, Tryd.ntmps26
      go_wp2
      go_ret
      exact ⟨ret_bool (by simp; omega), rfl⟩
  · go_enter Tryd.func26, Tryd.ntmps26
    go_wp2
    go_ret
    exact ⟨ret_bool (by simp; omega), rfl⟩

theorem truth_any (b : Bool) (w : World) :
    Calls Tryd.prog 28 #[.bool b] w fun e w' => e = .returned (.int .u64 (Num.tr b)) ∧ w = w' := by
  cases b
  all_goals
    go_enter Tryd.func28, Tryd.ntmps28
    go_wp2
    go_ret
    exact ⟨rfl, rfl⟩

theorem cut32 (a : Int) (w : World) (h0 : 0 ≤ a) (h1 : a < 18446744073709551616) :
    Calls Tryd.prog 27 #[.int .u64 a, .int .i64 32] w fun e w' => e = .returned (.int .u64 (a % 4294967296)) ∧ w = w' := by
  go_enter Tryd.func27, Tryd.ntmps27
  go_wp2
  go_ret
  exact ⟨ret_int (by (try simp only [IntKind.wrap_u64]); try omega), rfl⟩

theorem cut64 (a : Int) (w : World) (h0 : 0 ≤ a) (h1 : a < 18446744073709551616) :
    Calls Tryd.prog 27 #[.int .u64 a, .int .i64 64] w fun e w' => e = .returned (.int .u64 a) ∧ w = w' := by
  go_enter Tryd.func27, Tryd.ntmps27
  go_wp2
  go_ret
  exact ⟨ret_int (by (try simp only [IntKind.wrap_u64]); try omega), rfl⟩

theorem signed32 (a : Int) (w : World) (h0 : 0 ≤ a) (h1 : a < 4294967296) :
    Calls Tryd.prog 32 #[.int .u64 a, .int .i64 32] w fun e w' => e = .returned (.int .i64 (Num.sg 32 a)) ∧ w = w' := by
  go_enter Tryd.func32, Tryd.ntmps32
  go_wp2
  go_ret
  exact ⟨ret_int (by (try simp only [IntKind.wrap_u64]); (try unfold wrap64); simp only [Num.sg32, Num.sg64]; split <;> omega), rfl⟩

theorem signed64 (a : Int) (w : World) (h0 : 0 ≤ a) (h1 : a < 18446744073709551616) :
    Calls Tryd.prog 32 #[.int .u64 a, .int .i64 64] w fun e w' => e = .returned (.int .i64 (Num.sg 64 a)) ∧ w = w' := by
  go_enter Tryd.func32, Tryd.ntmps32
  go_wp2
  go_ret
  exact ⟨ret_int (by (try simp only [IntKind.wrap_u64]); (try unfold wrap64); simp only [Num.sg32, Num.sg64]; split <;> omega), rfl⟩

/-- plain arithmetic of values that fit. -/
def Fit (n : Nat) (a : Int) : Prop := (n = 32 ∧ 0 ≤ a ∧ a < 4294967296) ∨ (n = 64 ∧ 0 ≤ a ∧ a < 18446744073709551616)

theorem signed_any (n : Nat) (a : Int) (w : World) (h : Fit n a) :
    Calls Tryd.prog 32 #[.int .u64 a, .int .i64 n] w fun e w' => e = .returned (.int .i64 (Num.sg n a)) ∧ w = w' := by
  rcases h with ⟨rfl, h0, h1⟩ | ⟨rfl, h0, h1⟩
  · exact signed32 a w h0 h1
  · exact signed64 a w h0 h1

theorem cut_any (n : Nat) (a : Int) (w : World) (hn : n = 32 ∨ n = 64) (h0 : 0 ≤ a) (h1 : a < 18446744073709551616) :
    Calls Tryd.prog 27 #[.int .u64 a, .int .i64 n] w fun e w' => e = .returned (.int .u64 (a % 2 ^ n)) ∧ w = w' := by
  rcases hn with rfl | rfl
  · exact cut32 a w h0 h1
  · rw [show a % 2 ^ 64 = a by simp; omega]
    exact cut64 a w h0 h1

set_option maxHeartbeats 4000000 in
set_option maxRecDepth 100000 in
theorem compare_any (i n : Nat) (a b : Int) (w : World) (hi : i < 10) (ha : Fit n a) (hb : Fit n b) :
    Calls Tryd.prog 33 #[.int .i64 ((i : Int) + 70), .int .i64 n, .int .u64 a, .int .u64 b] w fun e w' => e = .returned (.bool (Num.cmpV i n a b)) ∧ w = w' := by
  have hl : i = 0 ∨ i = 1 ∨ i = 2 ∨ i = 3 ∨ i = 4 ∨ i = 5 ∨ i = 6 ∨ i = 7 ∨ i = 8 ∨ i = 9 := by omega
  have HA := Lib.hid (fun w => signed_any n a w ha)
  have HB := Lib.hid (fun w => signed_any n b w hb)
  clear ha hb
  obtain ⟨s, hs⟩ : ∃ s, s = Num.sg n a := ⟨_, rfl⟩
  obtain ⟨t, ht⟩ : ∃ t, t = Num.sg n b := ⟨_, rfl⟩
  rw [← hs] at HA
  rw [← ht] at HB
  have HS := Lib.hid hs
  have HT := Lib.hid ht
  clear hs ht hi
  rcases hl with rfl | rfl | rfl | rfl | rfl | rfl | rfl | rfl | rfl | rfl
  all_goals
    go_enter Tryd.func33, Tryd.ntmps33
    go_wp2_with (go_at_call 32; first | (with_reducible refine (HA.out _).mono ?_; rintro e w' ⟨rfl, rfl⟩) | (with_reducible refine (HB.out _).mono ?_; rintro e w' ⟨rfl, rfl⟩))
    all_goals
      go_ret
      refine ⟨ret_bool ?_, rfl⟩
      simp only [Num.cmpV, ← HS.out, ← HT.out]
      rw [Bool.eq_iff_iff]
      simp
      try omega

end Go.Proofs.YtdenmbigdklhkaaDoor
