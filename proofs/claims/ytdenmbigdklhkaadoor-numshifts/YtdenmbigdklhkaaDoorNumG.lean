/- Contracts of num.Args, fit. -/
import Derived.Test.YtdenmbigdklhkaaDoorNumF
namespace Go.Proofs.YtdenmbigdklhkaaDoor
open Go.RowKit

/-- what num.Args returns. -/
def argsR (op : Int) : Value := .tuple #[.int .i64 (Num.many op), .bool (decide (Num.many op ≠ 0))]

theorem many_one (op : Int) (h : Num.many op = 1) : op = 69 ∨ op = 80 ∨ (103 ≤ op ∧ op ≤ 105) ∨ (121 ≤ op ∧ op ≤ 123) ∨ op = 167 ∨ op = 172 ∨ op = 173 := by
  unfold Num.many at h
  split at h
  · assumption
  · split at h <;> omega
theorem many_two (op : Int) (h : Num.many op = 2) : (70 ≤ op ∧ op ≤ 79) ∨ (81 ≤ op ∧ op ≤ 90) ∨ (106 ≤ op ∧ op ≤ 120) ∨ (124 ≤ op ∧ op ≤ 138) := by
  unfold Num.many at h
  split at h
  · omega
  · split at h
    · assumption
    · omega
theorem many_cases (op : Int) : Num.many op = 1 ∨ Num.many op = 2 ∨ Num.many op = 0 := by
  unfold Num.many
  repeat' split
  all_goals omega
theorem many_else (op : Int) (h1 : ¬ Num.many op = 1) (h2 : ¬ Num.many op = 2) : Num.many op = 0 := by
  rcases many_cases op with h | h | h
  · exact absurd h h1
  · exact absurd h h2
  · exact h
theorem many_zero (op : Int) (h : Num.many op = 0) : ¬ (op = 69 ∨ op = 80 ∨ (103 ≤ op ∧ op ≤ 105) ∨ (121 ≤ op ∧ op ≤ 123) ∨ op = 167 ∨ op = 172 ∨ op = 173) ∧ ¬ ((70 ≤ op ∧ op ≤ 79) ∨ (81 ≤ op ∧ op ≤ 90) ∨ (106 ≤ op ∧ op ≤ 120) ∨ (124 ≤ op ∧ op ≤ 138)) := by
  unfold Num.many at h
  split at h
  · omega
  · split at h
    · omega
    · constructor <;> assumption

set_option maxHeartbeats 4000000 in
set_option maxRecDepth 100000 in
theorem Args_any (op : Int) (w : World) (h0 : -9223372036854775808 ≤ op) (h1 : op ≤ 9223372036854775807) :
    Calls Tryd.prog 11 #[.int .i64 op] w fun e w' => e = .returned (argsR op) ∧ w = w' := by
  have HN := Lib.hid (fun w => narrow_any op w h0 h1)
  by_cases c1 : Num.many op = 1
  · have hr : argsR op = .tuple #[.int .i64 1, .bool true] := by simp [argsR, c1]
    rw [hr]
    have hs : (Num.nrw op).2 ≠ 0 ∧ ((Num.nrw op).1 = 69 ∨ (Num.nrw op).1 = 103 ∨ (Num.nrw op).1 = 104 ∨ (Num.nrw op).1 = 105 ∨ (Num.nrw op).1 = 167 ∨ (Num.nrw op).1 = 172 ∨ (Num.nrw op).1 = 173) := by
      have hm := many_one op c1
      unfold Num.nrw
      repeat' split
      all_goals omega
    obtain ⟨s, hs1⟩ : ∃ s, s = (Num.nrw op).1 := ⟨_, rfl⟩
    obtain ⟨v, hs2⟩ : ∃ v, v = (Num.nrw op).2 := ⟨_, rfl⟩
    rw [← hs1, ← hs2] at hs HN
    obtain ⟨hv, hs⟩ := hs
    have hv' : (v == 0) = false := by simp [hv]
    clear hr c1 hs1 hs2 h0 h1
    rcases hs with rfl | rfl | rfl | rfl | rfl | rfl | rfl
    all_goals
      go_enter Tryd.func11, Tryd.ntmps11
      go_wp2_with (go_at_call 16; refine (HN.out _).mono ?_; rintro e w' ⟨rfl, rfl⟩)
      go_ret2
      exact ⟨rfl, rfl⟩
  by_cases c2 : Num.many op = 2
  · have hr : argsR op = .tuple #[.int .i64 2, .bool true] := by simp [argsR, c2]
    rw [hr]
    have hs : (Num.nrw op).2 ≠ 0 ∧ ¬ ((Num.nrw op).1 = 69 ∨ (Num.nrw op).1 = 103 ∨ (Num.nrw op).1 = 104 ∨ (Num.nrw op).1 = 105 ∨ (Num.nrw op).1 = 167 ∨ (Num.nrw op).1 = 172 ∨ (Num.nrw op).1 = 173) := by
      have hm := many_two op c2
      unfold Num.nrw
      repeat' split
      all_goals omega
    obtain ⟨s, hs1⟩ : ∃ s, s = (Num.nrw op).1 := ⟨_, rfl⟩
    obtain ⟨v, hs2⟩ : ∃ v, v = (Num.nrw op).2 := ⟨_, rfl⟩
    rw [← hs1, ← hs2] at hs HN
    obtain ⟨hv, hs⟩ := hs
    have hv' : (v == 0) = false := by simp [hv]
    have t1 : (s == 69) = false := by simp; omega
    have t2 : (s == 103) = false := by simp; omega
    have t3 : (s == 104) = false := by simp; omega
    have t4 : (s == 105) = false := by simp; omega
    have t5 : (s == 167) = false := by simp; omega
    have t6 : (s == 172) = false := by simp; omega
    have t7 : (s == 173) = false := by simp; omega
    clear hr c1 c2 hs1 hs2 h0 h1 hs
    go_enter Tryd.func11, Tryd.ntmps11
    go_wp2_with (go_at_call 16; refine (HN.out _).mono ?_; rintro e w' ⟨rfl, rfl⟩)
    go_ret2
    exact ⟨rfl, rfl⟩
  have c0 := many_else op c1 c2
  have hr : argsR op = .tuple #[.int .i64 0, .bool false] := by simp [argsR, c0]
  rw [hr]
  have hs : Num.nrw op = (0, 0) := by
    have hm := many_zero op c0
    unfold Num.nrw
    rw [if_neg (by omega), if_neg (by omega), if_neg (by omega), if_neg (by omega)]
  rw [hs] at HN
  clear hr c1 c2 c0 hs h0 h1
  go_enter Tryd.func11, Tryd.ntmps11
  go_wp2_with (go_at_call 16; refine (HN.out _).mono ?_; rintro e w' ⟨rfl, rfl⟩)
  go_ret2
  exact ⟨rfl, rfl⟩

/-- numbers as cells. -/
def u64s (zs : List Int) : List Value := zs.map (Value.int .u64)
theorem u64s_get (zs : List Int) (i : Nat) (h : i < zs.length) : (u64s zs)[i]? = some (.int .u64 (zs[i])) := by simp [u64s, h]
@[simp] theorem u64s_length (zs : List Int) : (u64s zs).length = zs.length := by simp [u64s]

def fitB (n : Nat) (zs : List Int) : Bool := zs.all fun z => decide (z < 2 ^ n)

set_option maxHeartbeats 4000000 in
set_option maxRecDepth 100000 in
theorem fit32 (A : Option Addr) (c : Nat) (zs : List Int) (w : World) (hs : Sl w w.heap.size A (u64s zs)) (hc : zs.length ≤ c) (hm : c ≤ maxLen) (hz : ∀ z ∈ zs, 0 ≤ z ∧ z < 18446744073709551616) :
    Calls Tryd.prog 17 #[.slice A zs.length c, .int .i64 32] w fun e w' => e = .returned (.bool (fitB 32 zs)) ∧ w = w' := by
  unfold maxLen at hm
  by_cases hne : zs = []
  · subst hne
    clear hs hz
    have e : fitB 32 [] = true := rfl
    rw [e]
    simp only [List.length_nil]
    go_enter Tryd.func17, Tryd.ntmps17
    go_wp2
    go_loop [9] (fun i => i = .int .i64 0) (fun _ => 0)
    case atStart => rfl
    case round =>
      subst hrel
      go_wp2
      go_ret
      exact ⟨rfl, rfl⟩
  · obtain ⟨b, off, rfl, hb, hcell⟩ := hs (by intro h; apply hne; simpa [u64s] using h)
    have hpos : 0 < zs.length := List.length_pos_iff.2 hne
    have HC := Lib.hid (fun i (h : i < zs.length) => (hcell i (by simpa using h)).trans (u64s_get zs i h))
    have HZ := Lib.hid (fun i (h : i < zs.length) => hz _ (List.getElem_mem h))
    have HT : Hid ((∀ i (h : i < zs.length), zs[i] < 4294967296) → fitB 32 zs = true) := Lib.hid (fun h => by
      unfold fitB
      rw [List.all_eq_true]
      intro z hz
      obtain ⟨i, hi, rfl⟩ := List.getElem_of_mem hz
      simpa using h i hi)
    have HF : Hid (∀ i (h : i < zs.length), ¬ zs[i] < 4294967296 → fitB 32 zs = false) := Lib.hid (fun i h hb => by
      rw [Bool.eq_false_iff]
      intro hc
      unfold fitB at hc
      rw [List.all_eq_true] at hc
      have := hc _ (List.getElem_mem h)
      simp at this
      exact hb (by simpa using this))
    clear hcell hz hs hne
    go_enter Tryd.func17, Tryd.ntmps17
    go_wp2
    go_loop [9] (fun i => ∃ j : Nat, j ≤ zs.length ∧ i = .int .i64 j ∧ Hid (∀ k (h : k < zs.length), k < j → zs[k] < 4294967296)) (fun i => zs.length - (intOf i).toNat)
    case atStart => exact ⟨0, Nat.zero_le _, rfl, Lib.hid (fun _ _ h => absurd h (by omega))⟩
    case round =>
      obtain ⟨j, hj, rfl, HJ⟩ := hrel
      by_cases hlt : j < zs.length
      · have hcj := HC.out j hlt
        have hzj := HZ.out j hlt
        have HFj := Lib.hid (HF.out j hlt)
        have HJ2 : Hid (zs[j] < 4294967296 → ∀ k (h : k < zs.length), k < j + 1 → zs[k] < 4294967296) := Lib.hid (fun hx k h hk => by
          rcases Nat.lt_or_ge k j with h1 | h1
          · exact HJ.out k h h1
          · have : k = j := by omega
            subst this; exact hx)
        obtain ⟨x, hx⟩ : ∃ x, x = zs[j] := ⟨_, rfl⟩
        rw [← hx] at hcj hzj HFj HJ2
        clear hx
        obtain ⟨x0, x1⟩ := hzj
        have HX := Lib.hid (fun w => cut32 x w x0 x1)
        by_cases hfit : x < 4294967296
        · have e : x % 4294967296 = x := by omega
          rw [e] at HX
          have t : (x != x) = false := by simp
          have HJ3 := Lib.hid (HJ2.out hfit)
          clear e
          go_wp2_with (go_at_call 27; refine (HX.out _).mono ?_; rintro e w' ⟨rfl, rfl⟩)
          go_round
          case rel => exact ⟨j + 1, by omega, by go_num, HJ3⟩
          case measure => simp [intOf]; omega
        · have t : (x != x % 4294967296) = true := by simp; omega
          have Hfin := Lib.hid (HFj.out (by omega))
          go_wp2_with (go_at_call 27; refine (HX.out _).mono ?_; rintro e w' ⟨rfl, rfl⟩)
          go_ret
          exact ⟨ret_bool Hfin.out.symm, rfl⟩
      · have Hfin := Lib.hid (HT.out (fun i h => HJ.out i h (by omega)))
        have hj' : j = zs.length := by omega
        subst hj'
        clear HJ hj hlt
        go_wp2
        go_ret
        exact ⟨ret_bool Hfin.out.symm, rfl⟩

set_option maxHeartbeats 4000000 in
set_option maxRecDepth 100000 in
theorem fit64 (A : Option Addr) (c : Nat) (zs : List Int) (w : World) (hs : Sl w w.heap.size A (u64s zs)) (hc : zs.length ≤ c) (hm : c ≤ maxLen) (hz : ∀ z ∈ zs, 0 ≤ z ∧ z < 18446744073709551616) :
    Calls Tryd.prog 17 #[.slice A zs.length c, .int .i64 64] w fun e w' => e = .returned (.bool (fitB 64 zs)) ∧ w = w' := by
  unfold maxLen at hm
  by_cases hne : zs = []
  · subst hne
    clear hs hz
    have e : fitB 64 [] = true := rfl
    rw [e]
    simp only [List.length_nil]
    go_enter Tryd.func17, Tryd.ntmps17
    go_wp2
    go_loop [9] (fun i => i = .int .i64 0) (fun _ => 0)
    case atStart => rfl
    case round =>
      subst hrel
      go_wp2
      go_ret
      exact ⟨rfl, rfl⟩
  · obtain ⟨b, off, rfl, hb, hcell⟩ := hs (by intro h; apply hne; simpa [u64s] using h)
    have hpos : 0 < zs.length := List.length_pos_iff.2 hne
    have HC := Lib.hid (fun i (h : i < zs.length) => (hcell i (by simpa using h)).trans (u64s_get zs i h))
    have HZ := Lib.hid (fun i (h : i < zs.length) => hz _ (List.getElem_mem h))
    have HT : Hid ((∀ i (h : i < zs.length), zs[i] < 18446744073709551616) → fitB 64 zs = true) := Lib.hid (fun h => by
      unfold fitB
      rw [List.all_eq_true]
      intro z hz
      obtain ⟨i, hi, rfl⟩ := List.getElem_of_mem hz
      simpa using h i hi)
    have HF : Hid (∀ i (h : i < zs.length), ¬ zs[i] < 18446744073709551616 → fitB 64 zs = false) := Lib.hid (fun i h hb => by
      rw [Bool.eq_false_iff]
      intro hc
      unfold fitB at hc
      rw [List.all_eq_true] at hc
      have := hc _ (List.getElem_mem h)
      simp at this
      exact hb (by simpa using this))
    clear hcell hz hs hne
    go_enter Tryd.func17, Tryd.ntmps17
    go_wp2
    go_loop [9] (fun i => ∃ j : Nat, j ≤ zs.length ∧ i = .int .i64 j ∧ Hid (∀ k (h : k < zs.length), k < j → zs[k] < 18446744073709551616)) (fun i => zs.length - (intOf i).toNat)
    case atStart => exact ⟨0, Nat.zero_le _, rfl, Lib.hid (fun _ _ h => absurd h (by omega))⟩
    case round =>
      obtain ⟨j, hj, rfl, HJ⟩ := hrel
      by_cases hlt : j < zs.length
      · have hcj := HC.out j hlt
        have hzj := HZ.out j hlt
        have HFj := Lib.hid (HF.out j hlt)
        have HJ2 : Hid (zs[j] < 18446744073709551616 → ∀ k (h : k < zs.length), k < j + 1 → zs[k] < 18446744073709551616) := Lib.hid (fun hx k h hk => by
          rcases Nat.lt_or_ge k j with h1 | h1
          · exact HJ.out k h h1
          · have : k = j := by omega
            subst this; exact hx)
        obtain ⟨x, hx⟩ : ∃ x, x = zs[j] := ⟨_, rfl⟩
        rw [← hx] at hcj hzj HFj HJ2
        clear hx
        obtain ⟨x0, x1⟩ := hzj
        have HX := Lib.hid (fun w => cut64 x w x0 x1)
        by_cases hfit : x < 18446744073709551616
        · have t : (x != x) = false := by simp
          have HJ3 := Lib.hid (HJ2.out hfit)
          go_wp2_with (go_at_call 27; refine (HX.out _).mono ?_; rintro e w' ⟨rfl, rfl⟩)
          go_round
          case rel => exact ⟨j + 1, by omega, by go_num, HJ3⟩
          case measure => simp [intOf]; omega
        · exact absurd x1 hfit
      · have Hfin := Lib.hid (HT.out (fun i h => HJ.out i h (by omega)))
        have hj' : j = zs.length := by omega
        subst hj'
        clear HJ hj hlt
        go_wp2
        go_ret
        exact ⟨ret_bool Hfin.out.symm, rfl⟩

end Go.Proofs.YtdenmbigdklhkaaDoor
