/- Contracts of op.isFloatName, op.Find. -/
import Derived.Test.YtblmhlojbjhmnaaDoorOpE
import Derived.Test.YtblmhlojbjhmnaaDoorOpMath2
namespace Go.Proofs.YtblmhlojbjhmnaaDoor
open Go.RowKit

set_option maxHeartbeats 4000000 in
set_option maxRecDepth 100000 in
theorem isFloatName_any (s : ByteArray) (w : World) (hs : s.size ≤ 9223372036854775807) :
    Calls Tryd.prog 22 #[.string s] w fun e w' => e = .returned (.bool (Opx.fl s.data.toList)) ∧ w = w' := by
  have HP1 := Lib.hid (fun w => Tryd.strings_HasPrefix s ⟨#[102, 51, 50, 46]⟩ w)
  have HP2 := Lib.hid (fun w => Tryd.strings_HasPrefix s ⟨#[102, 54, 52, 46]⟩ w)
  have HC := Lib.hid (fun w => Tryd.strings_CutSuffix s ⟨#[95, 115]⟩ w hs)
  have HT := Lib.hid (fun w => Tryd.strings_TrimSuffix s ⟨#[95, 117]⟩ w hs)
  have hl : s.data.toList.length ≤ 9223372036854775807 := by rw [← Lib.size_eq]; exact hs
  obtain ⟨l, hll⟩ : ∃ l, l = s.data.toList := ⟨_, rfl⟩
  rw [← hll] at hl HP1 HP2 HC HT ⊢
  obtain ⟨p1, hp1⟩ : ∃ p, p = Lib.hasPrefix l [102, 51, 50, 46] := ⟨_, rfl⟩
  obtain ⟨p2, hp2⟩ : ∃ p, p = Lib.hasPrefix l [102, 54, 52, 46] := ⟨_, rfl⟩
  simp only [← hp1, ← hp2] at HP1 HP2
  cases p1
  case true =>
    have e : Opx.fl l = true := by simp [Opx.fl, ← hp1]
    rw [e]
    clear e hp1 hp2 HC HT hl hs hll
    go_enter Tryd.func22, Tryd.ntmps22
    go_wp2_with (go_at_call 30; refine (HP1.out _).mono ?_; rintro e w' ⟨rfl, rfl⟩)
    go_ret
    exact ⟨rfl, rfl⟩
  cases p2
  case true =>
    have e : Opx.fl l = true := by simp [Opx.fl, ← hp2]
    rw [e]
    clear e hp1 hp2 HC HT hl hs hll
    go_enter Tryd.func22, Tryd.ntmps22
    go_wp2_with (go_at_call 30; (first | with_reducible refine (HP1.out _).mono ?_ | with_reducible refine (HP2.out _).mono ?_); rintro e w' ⟨rfl, rfl⟩)
    go_ret
    exact ⟨rfl, rfl⟩
  have hr : (⟨(Opx.rest l).toArray⟩ : ByteArray).size ≤ 9223372036854775807 := by
    rw [Lib.size_eq]; have := Opx.rest_le l; simp; omega
  have H32 := Lib.hid (fun w => Tryd.strings_HasSuffix ⟨(Opx.rest l).toArray⟩ ⟨#[95, 102, 51, 50]⟩ w hr)
  have H64 := Lib.hid (fun w => Tryd.strings_HasSuffix ⟨(Opx.rest l).toArray⟩ ⟨#[95, 102, 54, 52]⟩ w hr)
  have e : Opx.fl l = (Lib.hasSuffix (Opx.rest l) [95, 102, 51, 50] || Lib.hasSuffix (Opx.rest l) [95, 102, 54, 52]) := by simp [Opx.fl, ← hp1, ← hp2]; rfl
  rw [e]
  simp only at H32 H64
  by_cases hS : Lib.hasSuffix l [95, 115] = true
  · have er : Opx.rest l = Lib.trimSuffix l [95, 115] := by simp [Opx.rest, Opx.sufS, hS]
    simp only [hS, ← er] at HC
    obtain ⟨r, hr'⟩ : ∃ r, r = Opx.rest l := ⟨_, rfl⟩
    rw [← hr'] at H32 H64 HC ⊢
    obtain ⟨q1, hq1⟩ : ∃ p, p = Lib.hasSuffix r [95, 102, 51, 50] := ⟨_, rfl⟩
    obtain ⟨q2, hq2⟩ : ∃ p, p = Lib.hasSuffix r [95, 102, 54, 52] := ⟨_, rfl⟩
    rw [← hq1, ← hq2]
    simp only [← hq1, ← hq2] at H32 H64
    clear e er hp1 hp2 HT hl hs hll hr hr' hS hq1 hq2
    cases q1
    all_goals
      go_enter Tryd.func22, Tryd.ntmps22
      go_wp2_with (first
        | (go_at_call 30; (first | with_reducible refine (HP1.out _).mono ?_ | with_reducible refine (HP2.out _).mono ?_); rintro e w' ⟨rfl, rfl⟩)
        | (go_at_call 31; refine (HC.out _).mono ?_; rintro e w' ⟨rfl, rfl⟩)
        | (go_at_call 29; (first | with_reducible refine (H32.out _).mono ?_ | with_reducible refine (H64.out _).mono ?_); rintro e w' ⟨rfl, rfl⟩))
      go_ret
      exact ⟨by simp, rfl⟩
  · have hS' : Lib.hasSuffix l [95, 115] = false := by simpa using hS
    have er : Opx.rest l = Lib.trimSuffix l [95, 117] := by simp [Opx.rest, Opx.sufS, Opx.sufU, hS']
    simp only [hS'] at HC
    simp only [← er] at HT
    obtain ⟨r, hr'⟩ : ∃ r, r = Opx.rest l := ⟨_, rfl⟩
    rw [← hr'] at H32 H64 HT ⊢
    obtain ⟨q1, hq1⟩ : ∃ p, p = Lib.hasSuffix r [95, 102, 51, 50] := ⟨_, rfl⟩
    obtain ⟨q2, hq2⟩ : ∃ p, p = Lib.hasSuffix r [95, 102, 54, 52] := ⟨_, rfl⟩
    rw [← hq1, ← hq2]
    simp only [← hq1, ← hq2] at H32 H64
    clear e er hp1 hp2 hl hs hll hr hr' hS hS' hq1 hq2
    cases q1
    all_goals
      go_enter Tryd.func22, Tryd.ntmps22
      go_wp2_with (first
        | (go_at_call 30; (first | with_reducible refine (HP1.out _).mono ?_ | with_reducible refine (HP2.out _).mono ?_); rintro e w' ⟨rfl, rfl⟩)
        | (go_at_call 31; refine (HC.out _).mono ?_; rintro e w' ⟨rfl, rfl⟩)
        | (go_at_call 32; refine (HT.out _).mono ?_; rintro e w' ⟨rfl, rfl⟩)
        | (go_at_call 29; (first | with_reducible refine (H32.out _).mono ?_ | with_reducible refine (H64.out _).mono ?_); rintro e w' ⟨rfl, rfl⟩))
      go_ret
      exact ⟨by simp, rfl⟩

set_option maxHeartbeats 4000000 in
set_option maxRecDepth 100000 in
theorem Find_flt (s : ByteArray) (w : World) (hs : s.size ≤ 9223372036854775807) (h : Opx.fl s.data.toList = true) :
    Calls Tryd.prog 13 #[.string s] w fun e w' => e = .returned (.tuple #[noV, .iface 31 (.int .i64 3)]) ∧ Below w.heap.size w w' := by
  have HF := Lib.hid (fun w => isFloatName_any s w hs)
  rw [h] at HF
  unfold noV
  go_enter Tryd.func13, Tryd.ntmps13
  go_wp2_with (go_at_call 22; refine (HF.out _).mono ?_; rintro e w' ⟨rfl, rfl⟩)
  refine bodyPost_ret (v := .tuple #[noV, .iface 31 (.int .i64 3)]) (by simp [results, Tryd.results13, go_sem, noV]) rfl ?_
  exact ⟨rfl, (Below.refl _ _).alloc (Nat.le_refl _) _⟩

theorem nmB_is (b : Int) (s : ByteArray) : ((Opx.nmB b).toList == s.toList) = (Opx.nm b == s.data.toList) := by
  rw [Lib.toList_data, Lib.toList_data, nmB_list]

set_option maxHeartbeats 4000000 in
set_option maxRecDepth 100000 in
theorem Find_none (s : ByteArray) (w : World) (hN : Nam w) (hs : s.size ≤ 9223372036854775807) (h : Opx.fl s.data.toList = false) (hn : s.data.toList = [] ∨ ∀ b : Int, Opx.nm b ≠ s.data.toList) :
    Calls Tryd.prog 13 #[.string s] w fun e w' => e = .returned (.tuple #[noV, .iface 31 (.int .i64 5)]) ∧ Below w.heap.size w w' := by
  have HF := Lib.hid (fun w => isFloatName_any s w hs)
  rw [h] at HF
  by_cases h0 : s.data.toList = []
  · have t : s.toList.isEmpty = true := by rw [Lib.toList_data, h0]; rfl
    clear hn h h0 hN
    unfold noV
    go_enter Tryd.func13, Tryd.ntmps13
    go_wp2_with (go_at_call 22; refine (HF.out _).mono ?_; rintro e w' ⟨rfl, rfl⟩)
    refine bodyPost_ret (v := .tuple #[noV, .iface 31 (.int .i64 5)]) (by simp [results, Tryd.results13, go_sem, noV]) rfl ?_
    exact ⟨rfl, (Below.refl _ _).alloc (Nat.le_refl _) _⟩
  have t : s.toList.isEmpty = false := by rw [Lib.toList_data]; cases hq : s.data.toList <;> simp_all
  have HQ : Hid (∀ b : Int, ((Opx.nmB b).toList == s.toList) = false) := Lib.hid (fun b => by
    rw [nmB_is]
    have := hn.resolve_left h0 b
    simpa using this)
  have HN := Lib.hid (fun o (j : Nat) (hj : j < 174) => nameOf_any j (w.alloc o) (hN.alloc o) (by omega) (by omega))
  clear hn h0 h hN hs
  unfold noV
  go_enter Tryd.func13, Tryd.ntmps13
  go_wp2_with (go_at_call 22; refine (HF.out _).mono ?_; rintro e w' ⟨rfl, rfl⟩)
  go_loop [13] (fun i => ∃ j : Nat, j ≤ 174 ∧ i = .int .i64 j) (fun i => 174 - (intOf i).toNat)
  case atStart => exact ⟨0, by omega, rfl⟩
  case round =>
    obtain ⟨j, hj, rfl⟩ := hrel
    by_cases hlt : j < 174
    · have HNj := Lib.hid (fun o => HN.out o j hlt)
      have tq := HQ.out j
      have tl : decide ((j : Int) < 174) = true := by simp; omega
      go_wp2_with (go_at_call 17; refine (HNj.out _).mono ?_; rintro e w' ⟨rfl, rfl⟩)
      go_round
      case rel => exact ⟨j + 1, by omega, by go_num⟩
      case measure => simp [intOf]; omega
    · have tl : decide ((j : Int) < 174) = false := by simp; omega
      have hj' : j = 174 := by omega
      subst hj'
      go_wp2
      refine bodyPost_ret (v := .tuple #[noV, .iface 31 (.int .i64 5)]) (by simp [results, Tryd.results13, go_sem, noV]) rfl ?_
      exact ⟨rfl, (Below.refl _ _).alloc (Nat.le_refl _) _⟩

set_option maxHeartbeats 4000000 in
set_option maxRecDepth 100000 in
theorem Find_op (b : Int) (s : ByteArray) (w : World) (hN : Nam w) (hn : Opx.nm b ≠ []) (he : s.data.toList = Opx.nm b) :
    Calls Tryd.prog 13 #[.string s] w fun e w' => ∃ A c, e = .returned (.tuple #[opV b (.slice A (Opx.tk b).length c), .nilIface]) ∧ Own w.heap.size w w' 3 (.slice A (Opx.tk b).length c) (i64s (Opx.tk b)) := by
  have hop := isOp_of b hn
  obtain ⟨m, rfl, hm, -⟩ := hop
  have hop := isOp_of m hn
  have hs : s.size ≤ 9223372036854775807 := by
    rw [Lib.size_eq, he]; have := nm_short m; omega
  have HF := Lib.hid (fun w => isFloatName_any s w hs)
  rw [he, Opx.fl_nm m m rfl hm hn] at HF
  have t : s.toList.isEmpty = false := by rw [Lib.toList_data, he]; cases hq : Opx.nm m <;> simp_all
  have HQ : Hid (∀ j : Nat, j < 174 → j ≠ m → ((Opx.nmB j).toList == s.toList) = false) := Lib.hid (fun j hj hne => by
    rw [nmB_is, he]
    have : Opx.nm j ≠ Opx.nm m := fun h => hne (Opx.apart m j hm hj hn h.symm).symm
    simpa using this)
  have HQ2 : Hid (((Opx.nmB m).toList == s.toList) = true) := Lib.hid (by rw [nmB_is, he]; simp)
  have HN := Lib.hid (fun o (j : Nat) (hj : j < 174) => nameOf_any j (w.alloc o) (hN.alloc o) (by omega) (by omega))
  have HW := Lib.hid (fun o => whole_any m (w.alloc o) hop (hN.alloc o))
  unfold opV at HW ⊢
  clear hn he hN hs hop
  go_enter Tryd.func13, Tryd.ntmps13
  go_wp2_with (go_at_call 22; refine (HF.out _).mono ?_; rintro e w' ⟨rfl, rfl⟩)
  go_loop [13] (fun i => ∃ j : Nat, j ≤ m ∧ i = .int .i64 j) (fun i => 174 - (intOf i).toNat)
  case atStart => exact ⟨0, by omega, rfl⟩
  case round =>
    obtain ⟨j, hj, rfl⟩ := hrel
    have HNj := Lib.hid (fun o => HN.out o j (by omega))
    have tl : decide ((j : Int) < 174) = true := by simp; omega
    by_cases hlt : j < m
    · have tq := HQ.out j (by omega) (by omega)
      go_wp2_with (go_at_call 17; refine (HNj.out _).mono ?_; rintro e w' ⟨rfl, rfl⟩)
      go_round
      case rel => exact ⟨j + 1, by omega, by go_num⟩
      case measure => simp [intOf]; omega
    · have hj' : j = m := by omega
      subst hj'
      have tq := HQ2.out
      go_wp2_with (first
        | (go_at_call 17; refine (HNj.out _).mono ?_; rintro e w' ⟨rfl, rfl⟩)
        | (go_at_call 18; refine (HW.out _).mono ?_; rintro e w' ⟨v, rfl, ho⟩; obtain ⟨A, c, rfl, -, -, -⟩ := ho.form; obtain ⟨hlt, k0, k1, k2, k3, k4, k5, k6, kf⟩ := seven ho.below; have hk := Lib.hid ho.kep; simp only [i64s_length] at hk ⊢; clear ho))
      refine bodyPost_ret (v := .tuple #[.agg #[.int .i64 j, .string (Opx.nmB j), .int .i64 (Opx.kd j), .slice A (Opx.tk j).length c, .int .i64 (Opx.gv j), .int .i64 (Opx.by_ j), .bool (Opx.sn j)], .nilIface]) (by simp [results, Tryd.results13, go_sem, k0, k1, k2, k3, k4, k5, k6, hlt]) rfl ?_
      exact ⟨_, _, rfl, (((((((hk.out.setCell 0 _).setCell 1 _).setCell 2 _).setCell 3 _).setCell 4 _).setCell 5 _).setCell 6 _).own⟩

end Go.Proofs.YtblmhlojbjhmnaaDoor
