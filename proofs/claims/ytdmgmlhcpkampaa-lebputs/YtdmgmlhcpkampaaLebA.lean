/- Contracts of leb.most, leb.kept, leb.even, leb.length, leb.join: what each returns, for every input in its range. -/
import Derived.Test.YtdmgmlhcpkampaaMem
import Derived.Test.YtdmgmlhcpkampaaLebMath
import Derived.Laws.BitsAllLaws
import Derived.Laws.ShiftsVarLaws
import Derived.IntWalk
namespace Go.Proofs.Ytdmgmlhcpkampaa
open Go.RowKit

theorem ret_int {k : IntKind} {a b : Int} (h : a = b) : Ending.returned (.int k a) = .returned (.int k b) := by rw [h]
theorem ret_bool {a b : Bool} (h : a = b) : Ending.returned (.bool a) = .returned (.bool b) := by rw [h]

theorem ret3 {a b c a' b' c' : Value} (h1 : a = a') (h2 : b = b') (h3 : c = c') : Ending.returned (.tuple #[a, b, c]) = .returned (.tuple #[a', b', c']) := by rw [h1, h2, h3]

theorem most_any (n : Int) (w : World) (h0 : 1 ≤ n) (h1 : n ≤ 64) :
    Calls Try.prog 18 #[.int .i64 n] w fun e w' => e = .returned (.int .i64 ((n + 6) / 7)) ∧ w = w' := by
  go_enter Try.func18, Try.ntmps18
  go_wp2
  go_ret
  exact ⟨ret_int (by omega), rfl⟩

theorem most_nat (n : Int) (m : Nat) (w : World) (h0 : 1 ≤ n) (h1 : n ≤ 64) (hm : (n + 6) / 7 = m) :
    Calls Try.prog 18 #[.int .i64 n] w fun e w' => e = .returned (.int .i64 m) ∧ w = w' := by
  rw [← hm]; exact most_any n w h0 h1

theorem kept_any (n : Int) (w : World) (h0 : 1 ≤ n) (h1 : n ≤ 64) :
    Calls Try.prog 19 #[.int .i64 n] w fun e w' => e = .returned (.int .i64 (n - 7 * ((n + 6) / 7 - 1))) ∧ w = w' := by
  go_enter Try.func19, Try.ntmps19
  go_wp2_with (go_at_call 18; refine (most_any _ _ (by omega) (by omega)).mono ?_; rintro e w' ⟨rfl, rfl⟩)
  go_ret
  exact ⟨rfl, rfl⟩

theorem kept_nat (n : Int) (q : Nat) (w : World) (h0 : 1 ≤ n) (h1 : n ≤ 64) (hq : n - 7 * ((n + 6) / 7 - 1) = q) :
    Calls Try.prog 19 #[.int .i64 n] w fun e w' => e = .returned (.int .i64 q) ∧ w = w' := by
  rw [← hq]; exact kept_any n w h0 h1

theorem even_any (c : UInt8) (n : Int) (w : World) (h0 : 1 ≤ n) (h1 : n ≤ 7) :
    Calls Try.prog 21 #[.int .u8 c.toNat, .int .i64 n] w fun e w' => e = .returned (.bool (Leb.evenB c.toNat n.toNat)) ∧ w = w' := by
  have hc := c.toNat_lt
  go_enter Try.func21, Try.ntmps21
  go_wp2
  all_goals
    rename_i h
    go_ret
    refine ⟨ret_bool ?_, rfl⟩
    clear h0 h1 hc
    unfold Leb.evenB
    have e1 : ((c.toNat : Int) / 2 ^ (n.toNat - 1)) = ((c.toNat / 2 ^ (n.toNat - 1) : Nat) : Int) := by simp
    have e2 : ((127 : Int) / 2 ^ (n.toNat - 1)) = ((127 / 2 ^ (n.toNat - 1) : Nat) : Int) := by simp
  · rw [e1] at h
    have h' : c.toNat / 2 ^ (n.toNat - 1) = 0 := by omega
    simp [h']
  · show ((_ == _) || (_ == _)) = _
    rw [e1, e2]
    have hb : ∀ a b : Nat, ((a : Int) == (b : Int)) = (a == b) := fun a b => by
      rw [Bool.eq_iff_iff, beq_iff_eq, beq_iff_eq]; omega
    rw [hb]
    rw [show (0 : Int) = ((0 : Nat) : Int) from rfl, hb]

/-- what leb.length returns. -/
def lenV : Option Nat → Value
  | some j => .tuple #[.int .i64 j, .nilIface]
  | none => .tuple #[.int .i64 0, .iface 31 (.int .i64 2)]

set_option maxHeartbeats 400000 in
theorem length_bad (A : Option Addr) (n c : Nat) (at_ bits : Int) (w : World) 
   (h : bits < 1 ∨ 64 < bits ∨ at_ < 0 ∨ n < at_) :
    Calls Try.prog 17 #[.slice A n c, .int .i64 at_, .int .i64 bits] w fun e w' => e = .returned (.tuple #[.int .i64 0, .iface 31 (.int .i64 1)]) ∧ w = w' := by
  by_cases h1 : bits < 1
  · go_enter Try.func17, Try.ntmps17
    go_wp2
    go_ret2
    exact ⟨rfl, rfl⟩
  by_cases h2 : 64 < bits
  · go_enter Try.func17, Try.ntmps17
    go_wp2
    go_ret2
    exact ⟨rfl, rfl⟩
  by_cases h3 : at_ < 0
  · go_enter Try.func17, Try.ntmps17
    go_wp2
    go_ret2
    exact ⟨rfl, rfl⟩
  have h4 : n < at_ := by omega
  clear h
  go_enter Try.func17, Try.ntmps17
  go_wp2
  go_ret2
  exact ⟨rfl, rfl⟩

set_option maxHeartbeats 1000000 in
set_option maxRecDepth 100000 in
theorem length_any (A : Option Addr) (c : Nat) (bs : List UInt8) (k : Nat) (bits : Int) (w : World) (hs : Sl w w.heap.size A (u8s bs)) (hc : bs.length ≤ c) (hm : c ≤ maxLen)
   (h0 : 1 ≤ bits) (h1 : bits ≤ 64) (h3 : k ≤ bs.length) :
    Calls Try.prog 17 #[.slice A bs.length c, .int .i64 k, .int .i64 bits] w fun e w' => e = .returned (lenV (Leb.lenOf (bs.drop k) ((bits.toNat + 6) / 7))) ∧ w = w' := by
  unfold maxLen at hm
  have t1 : decide (bits < 1) = false := by simp; omega
  have t2 : decide (64 < bits) = false := by simp; omega
  have t3 : decide (bs.length < k) = false := by simp; omega
  by_cases hlt : k < bs.length
  · obtain ⟨b, off, rfl, hb, hcell⟩ := hs (by intro h; have := congrArg List.length h; simp at this; simp [this] at hlt)
    have hck : ¬ c = k := by omega
    obtain ⟨m, hm⟩ : ∃ m : Nat, (bits + 6) / 7 = m := ⟨((bits + 6) / 7).toNat, by omega⟩
    have hm10 : m ≤ 10 := by omega
    have em : (bits.toNat + 6) / 7 = m := by omega
    rw [em]
    have Hm := Lib.hid hm
    clear hm em
    have HF := Lib.hid (fun (l : List UInt8) j => Leb.lenOf_none l j)
    have HS := Lib.hid (fun (l : List UInt8) i j => Leb.lenOf_some l i j)
    have HC := Lib.hid hcell
    clear hcell
    by_cases hmin : (m : Int) < ((bs.length - k : Nat) : Int)
    all_goals
      go_enter Try.func17, Try.ntmps17
      go_wp2_with (go_at_call 18; refine (most_nat _ m _ (by omega) (by omega) Hm.out).mono ?_; rintro e w' ⟨rfl, rfl⟩)
      go_loop [39] (fun i => ∃ j : Nat, j ≤ m ∧ j ≤ bs.length - k ∧ i = .int .i64 j ∧ Hid (∀ i (h : i < (bs.drop k).length), i < j → 128 ≤ ((bs.drop k)[i]).toNat)) (fun i => m - (intOf i).toNat)
      case atStart => exact ⟨0, Nat.zero_le _, Nat.zero_le _, rfl, Lib.hid (fun i _ h => absurd h (by omega))⟩
      case round =>
        obtain ⟨j, hj1, hj2, rfl, HJ⟩ := hrel
        by_cases hj : j < m ∧ j < bs.length - k
        · obtain ⟨hjm, hjn⟩ := hj
          have hl : j < (bs.drop k).length := by simp; omega
          have hcj := (HC.out (k + j) (by simp; omega)).trans (u8s_get bs (k + j) (by omega))
          have hbj : bs[k + j]'(by omega) = (bs.drop k)[j] := by simp
          rw [hbj] at hcj
          clear hbj
          rw [show off + (k + j) = off + k + j by omega] at hcj
          have hb8 := ((bs.drop k)[j]).toNat_lt
          by_cases hbig : ((bs.drop k)[j]).toNat < 128
          · have hfin := HS.out (bs.drop k) m j hl hjm hbig HJ.out
            have Hfin := Lib.hid hfin
            clear hfin
            obtain ⟨x, hx⟩ : ∃ x, x = ((bs.drop k)[j]).toNat := ⟨_, rfl⟩
            rw [← hx] at hcj hb8 hbig
            clear hx
            go_wp2
            go_ret2
            refine ⟨?_, rfl⟩
            rw [Hfin.out]
            rfl
          · have HJ2 := Lib.hid (show ∀ i (h : i < (bs.drop k).length), i < j + 1 → 128 ≤ ((bs.drop k)[i]).toNat from fun i h hij => by
              rcases Nat.lt_or_ge i j with h1 | h1
              · exact HJ.out i h h1
              · have : i = j := by omega
                subst this; omega)
            obtain ⟨x, hx⟩ : ∃ x, x = ((bs.drop k)[j]).toNat := ⟨_, rfl⟩
            rw [← hx] at hcj hb8 hbig
            clear hx
            go_wp2
            go_round
            case rel => exact ⟨j + 1, by omega, by omega, by go_num, HJ2⟩
            case measure => simp [intOf]; omega
        · have hfin := HF.out (bs.drop k) m (fun i h hij => HJ.out i h (by simp at h; omega))
          have Hfin := Lib.hid hfin
          clear hfin
          first | (have hx : ¬ j < m := by omega) | (have hx : ¬ j < bs.length - k := by omega)
          go_wp2
          go_ret2
          refine ⟨?_, rfl⟩
          rw [Hfin.out]
          rfl
  · have hk : k = bs.length := by omega
    subst hk
    clear hs
    have e0 : bs.drop bs.length = [] := by simp
    rw [e0]
    clear h3 t3 hlt e0
    have t3 : decide (bs.length < bs.length) = false := by simp
    have t4 : ¬ ((bits + 6) / 7 < ((bs.length - bs.length : Nat) : Int)) := by omega
    by_cases hck : c = bs.length
    all_goals
      go_enter Try.func17, Try.ntmps17
      go_wp2_with (go_at_call 18; refine (most_any _ _ (by omega) (by omega)).mono ?_; rintro e w' ⟨rfl, rfl⟩)
      refine wp_loop_rounds 1 ?_
      rw [rounds_succ]
      go_wp2
      go_ret2
      exact ⟨rfl, rfl⟩

set_option maxHeartbeats 400000 in
theorem join_any (b off c : Nat) (bs : List UInt8) (w : World) (hs : Sl w w.heap.size (some ⟨b, off, none⟩) (u8s bs)) (hc : bs.length ≤ 10) :
    Calls Try.prog 20 #[.slice (some ⟨b, off, none⟩) bs.length c] w fun e w' => e = .returned (.int .u64 (Leb.joinOf bs % 18446744073709551616 : Nat)) ∧ w = w' := by
  go_enter Try.func20, Try.ntmps20
  go_wp2
  go_loop [3, 8] (fun v i => ∃ k : Nat, k ≤ bs.length ∧ i = .int .i64 k ∧ v = .int .u64 (Leb.joinOf (bs.take k) % 18446744073709551616 : Nat)) (fun _ i => bs.length - (intOf i).toNat)
  case atStart => exact ⟨0, Nat.zero_le _, rfl, rfl⟩
  case round =>
    obtain ⟨k, hk, rfl, rfl⟩ := hrel
    by_cases hlt : k < bs.length
    · obtain ⟨b', off', e, hb, hcell⟩ := hs (by intro h; have := congrArg List.length h; simp at this; simp [this] at hlt)
      injection e with e; injection e with e1 e2; subst e1 e2
      have hc := (hcell k (by simpa using hlt)).trans (u8s_get bs k hlt)
      clear hcell hs
      have hb8 := bs[k].toNat_lt
      have H := Lib.hid (Leb.join_step bs k hlt (by omega))
      go_wp2
      go_round
      case rel => exact ⟨k + 1, by omega, by go_num, by rw [H.out]⟩
      case measure => simp [intOf]; omega
    · go_wp2
      go_ret
      exact ⟨ret_int (by rw [List.take_of_length_le (by omega)]), rfl⟩

end Go.Proofs.Ytdmgmlhcpkampaa
