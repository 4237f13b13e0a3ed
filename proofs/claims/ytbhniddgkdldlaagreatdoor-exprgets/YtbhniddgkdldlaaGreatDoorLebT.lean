/- Contracts of leb.most, leb.kept, leb.even, leb.length, leb.join: what each returns, for every input in its range. -/
import Derived.Test.YtbhniddgkdldlaaGreatDoorMem
import Derived.Test.YtbhniddgkdldlaaGreatDoorLebM
import Derived.Laws.BitsAllLaws
import Derived.Laws.ShiftsVarLaws
import Derived.IntWalk
import Derived.Test.YtbhniddgkdldlaaGreatDoorOwn
import Derived.OpenShut
set_option linter.unusedVariables false
set_option linter.unusedSimpArgs false
namespace Go.Proofs.YtbhniddgkdldlaaGreatDoor
open Go.RowKit

theorem ret_intL {k : IntKind} {a b : Int} (h : a = b) : Ending.returned (.int k a) = .returned (.int k b) := by rw [h]
theorem ret_boolL {a b : Bool} (h : a = b) : Ending.returned (.bool a) = .returned (.bool b) := by rw [h]

theorem ret3 {a b c a' b' c' : Value} (h1 : a = a') (h2 : b = b') (h3 : c = c') : Ending.returned (.tuple #[a, b, c]) = .returned (.tuple #[a', b', c']) := by rw [h1, h2, h3]

theorem most_any (n : Int) (w : World) (h0 : 1 ≤ n) (h1 : n ≤ 64) :
    Calls Tryz.prog 96 #[.int .i64 n] w fun e w' => e = .returned (.int .i64 ((n + 6) / 7)) ∧ w = w' := by
  go_enter Tryz.func96, Tryz.ntmps96
  go_wp2
  go_ret
  exact ⟨ret_intL (by omega), rfl⟩

theorem most_nat (n : Int) (m : Nat) (w : World) (h0 : 1 ≤ n) (h1 : n ≤ 64) (hm : (n + 6) / 7 = m) :
    Calls Tryz.prog 96 #[.int .i64 n] w fun e w' => e = .returned (.int .i64 m) ∧ w = w' := by
  rw [← hm]; exact most_any n w h0 h1

theorem kept_any (n : Int) (w : World) (h0 : 1 ≤ n) (h1 : n ≤ 64) :
    Calls Tryz.prog 97 #[.int .i64 n] w fun e w' => e = .returned (.int .i64 (n - 7 * ((n + 6) / 7 - 1))) ∧ w = w' := by
  go_enter Tryz.func97, Tryz.ntmps97
  go_wp2_with (go_at_call 96; refine (most_any _ _ (by omega) (by omega)).mono ?_; rintro e w' ⟨rfl, rfl⟩)
  go_ret
  exact ⟨rfl, rfl⟩

theorem kept_nat (n : Int) (q : Nat) (w : World) (h0 : 1 ≤ n) (h1 : n ≤ 64) (hq : n - 7 * ((n + 6) / 7 - 1) = q) :
    Calls Tryz.prog 97 #[.int .i64 n] w fun e w' => e = .returned (.int .i64 q) ∧ w = w' := by
  rw [← hq]; exact kept_any n w h0 h1

theorem even_any (c : UInt8) (n : Int) (w : World) (h0 : 1 ≤ n) (h1 : n ≤ 7) :
    Calls Tryz.prog 99 #[.int .u8 c.toNat, .int .i64 n] w fun e w' => e = .returned (.bool (Leb.evenB c.toNat n.toNat)) ∧ w = w' := by
  have hc := c.toNat_lt
  go_enter Tryz.func99, Tryz.ntmps99
  go_wp2
  all_goals
    rename_i h
    go_ret
    refine ⟨ret_boolL ?_, rfl⟩
    clear h0 h1 hc
    unfold Leb.evenB
    have e1 : ((c.toNat : Int) / 2 ^ (n.toNat - 1)) = ((c.toNat / 2 ^ (n.toNat - 1) : Nat) : Int) := by simp
    have e2 : ((127 : Int) / 2 ^ (n.toNat - 1)) = ((127 / 2 ^ (n.toNat - 1) : Nat) : Int) := by simp
  · rw [e1] at h
    have h' : c.toNat / 2 ^ (n.toNat - 1) = 0 := by omega
    simp [h']
  · show ((_ == _) || (_ == _)) = _
    rw [e1, e2]
    have hb : ∀ a b : Nat, ((a : Int) == (b : Int)) = (a == b) := fun a b => by
      rw [Bool.eq_iff_iff, beq_iff_eq, beq_iff_eq]; omega
    rw [hb]
    rw [show (0 : Int) = ((0 : Nat) : Int) from rfl, hb]

/-- what leb.length returns. -/
def lenV : Option Nat → Value
  | some j => .tuple #[.int .i64 j, .nilIface]
  | none => .tuple #[.int .i64 0, .iface 32 (.int .i64 2)]

set_option maxHeartbeats 400000 in
theorem length_bad (A : Option Addr) (n c : Nat) (at_ bits : Int) (w : World) 
   (h : bits < 1 ∨ 64 < bits ∨ at_ < 0 ∨ n < at_) :
    Calls Tryz.prog 95 #[.slice A n c, .int .i64 at_, .int .i64 bits] w fun e w' => e = .returned (.tuple #[.int .i64 0, .iface 32 (.int .i64 1)]) ∧ w = w' := by
  by_cases h1 : bits < 1
  · go_enter Tryz.func95, Tryz.ntmps95
    go_wp2
    go_ret2
    exact ⟨rfl, rfl⟩
  by_cases h2 : 64 < bits
  · go_enter Tryz.func95, Tryz.ntmps95
    go_wp2
    go_ret2
    exact ⟨rfl, rfl⟩
  by_cases h3 : at_ < 0
  · go_enter Tryz.func95, Tryz.ntmps95
    go_wp2
    go_ret2
    exact ⟨rfl, rfl⟩
  have h4 : n < at_ := by omega
  clear h
  go_enter Tryz.func95, Tryz.ntmps95
  go_wp2
  go_ret2
  exact ⟨rfl, rfl⟩

set_option maxHeartbeats 1000000 in
set_option maxRecDepth 100000 in
theorem length_any (A : Option Addr) (c : Nat) (bs : List UInt8) (k : Nat) (bits : Int) (w : World) (hs : Sl w w.heap.size A (u8s bs)) (hc : bs.length ≤ c) (hm : c ≤ maxLen)
   (h0 : 1 ≤ bits) (h1 : bits ≤ 64) (h3 : k ≤ bs.length) :
    Calls Tryz.prog 95 #[.slice A bs.length c, .int .i64 k, .int .i64 bits] w fun e w' => e = .returned (lenV (Leb.lenOf (bs.drop k) ((bits.toNat + 6) / 7))) ∧ w = w' := by
  unfold maxLen at hm
  have t1 : decide (bits < 1) = false := by simp; omega
  have t2 : decide (64 < bits) = false := by simp; omega
  have t3 : decide (bs.length < k) = false := by simp; omega
  by_cases hlt : k < bs.length
  · obtain ⟨b, off, rfl, hb, hcell⟩ := hs (by intro h; have := congrArg List.length h; simp at this; simp [this] at hlt)
    have hck : ¬ c = k := by omega
    obtain ⟨m, hm⟩ : ∃ m : Nat, (bits + 6) / 7 = m := ⟨((bits + 6) / 7).toNat, by omega⟩
    have hm10 : m ≤ 10 := by omega
    have em : (bits.toNat + 6) / 7 = m := by omega
    rw [em]
    have Hm := Lib.hid hm
    clear hm em
    have HF := Lib.hid (fun (l : List UInt8) j => Leb.lenOf_none l j)
    have HS := Lib.hid (fun (l : List UInt8) i j => Leb.lenOf_some l i j)
    have HC := Lib.hid hcell
    clear hcell
    by_cases hmin : (m : Int) < ((bs.length - k : Nat) : Int)
    all_goals
      go_enter Tryz.func95, Tryz.ntmps95
      go_wp2_with (go_at_call 96; refine (most_nat _ m _ (by omega) (by omega) Hm.out).mono ?_; rintro e w' ⟨rfl, rfl⟩)
      go_loop [39] (fun i => ∃ j : Nat, j ≤ m ∧ j ≤ bs.length - k ∧ i = .int .i64 j ∧ Hid (∀ i (h : i < (bs.drop k).length), i < j → 128 ≤ ((bs.drop k)[i]).toNat)) (fun i => m - (intOf i).toNat)
      case atStart => exact ⟨0, Nat.zero_le _, Nat.zero_le _, rfl, Lib.hid (fun i _ h => absurd h (by omega))⟩
      case round =>
        obtain ⟨j, hj1, hj2, rfl, HJ⟩ := hrel
        by_cases hj : j < m ∧ j < bs.length - k
        · obtain ⟨hjm, hjn⟩ := hj
          have hl : j < (bs.drop k).length := by simp; omega
          have hcj := (HC.out (k + j) (by simp; omega)).trans (u8s_get bs (k + j) (by omega))
          have hbj : bs[k + j]'(by omega) = (bs.drop k)[j] := by simp
          rw [hbj] at hcj
          clear hbj
          rw [show off + (k + j) = off + k + j by omega] at hcj
          have hb8 := ((bs.drop k)[j]).toNat_lt
          by_cases hbig : ((bs.drop k)[j]).toNat < 128
          · have hfin := HS.out (bs.drop k) m j hl hjm hbig HJ.out
            have Hfin := Lib.hid hfin
            clear hfin
            obtain ⟨x, hx⟩ : ∃ x, x = ((bs.drop k)[j]).toNat := ⟨_, rfl⟩
            rw [← hx] at hcj hb8 hbig
            clear hx
            go_wp2
            go_ret2
            refine ⟨?_, rfl⟩
            rw [Hfin.out]
            rfl
          · have HJ2 := Lib.hid (show ∀ i (h : i < (bs.drop k).length), i < j + 1 → 128 ≤ ((bs.drop k)[i]).toNat from fun i h hij => by
              rcases Nat.lt_or_ge i j with h1 | h1
              · exact HJ.out i h h1
              · have : i = j := by omega
                subst this; omega)
            obtain ⟨x, hx⟩ : ∃ x, x = ((bs.drop k)[j]).toNat := ⟨_, rfl⟩
            rw [← hx] at hcj hb8 hbig
            clear hx
            go_wp2
            go_round
            case rel => exact ⟨j + 1, by omega, by omega, by go_num, HJ2⟩
            case measure => simp [intOf]; omega
        · have hfin := HF.out (bs.drop k) m (fun i h hij => HJ.out i h (by simp at h; omega))
          have Hfin := Lib.hid hfin
          clear hfin
          first | (have hx : ¬ j < m := by omega) | (have hx : ¬ j < bs.length - k := by omega)
          go_wp2
          go_ret2
          refine ⟨?_, rfl⟩
          rw [Hfin.out]
          rfl
  · have hk : k = bs.length := by omega
    subst hk
    clear hs
    have e0 : bs.drop bs.length = [] := by simp
    rw [e0]
    clear h3 t3 hlt e0
    have t3 : decide (bs.length < bs.length) = false := by simp
    have t4 : ¬ ((bits + 6) / 7 < ((bs.length - bs.length : Nat) : Int)) := by omega
    by_cases hck : c = bs.length
    all_goals
      go_enter Tryz.func95, Tryz.ntmps95
      go_wp2_with (go_at_call 96; refine (most_any _ _ (by omega) (by omega)).mono ?_; rintro e w' ⟨rfl, rfl⟩)
      refine wp_loop_rounds 1 ?_
      rw [rounds_succ]
      go_wp2
      go_ret2
      exact ⟨rfl, rfl⟩

set_option maxHeartbeats 400000 in
theorem join_any (b off c : Nat) (bs : List UInt8) (w : World) (hs : Sl w w.heap.size (some ⟨b, off, none⟩) (u8s bs)) (hc : bs.length ≤ 10) :
    Calls Tryz.prog 98 #[.slice (some ⟨b, off, none⟩) bs.length c] w fun e w' => e = .returned (.int .u64 (Leb.joinOf bs % 18446744073709551616 : Nat)) ∧ w = w' := by
  go_enter Tryz.func98, Tryz.ntmps98
  go_wp2
  go_loop [3, 8] (fun v i => ∃ k : Nat, k ≤ bs.length ∧ i = .int .i64 k ∧ v = .int .u64 (Leb.joinOf (bs.take k) % 18446744073709551616 : Nat)) (fun _ i => bs.length - (intOf i).toNat)
  case atStart => exact ⟨0, Nat.zero_le _, rfl, rfl⟩
  case round =>
    obtain ⟨k, hk, rfl, rfl⟩ := hrel
    by_cases hlt : k < bs.length
    · obtain ⟨b', off', e, hb, hcell⟩ := hs (by intro h; have := congrArg List.length h; simp at this; simp [this] at hlt)
      injection e with e; injection e with e1 e2; subst e1 e2
      have hc := (hcell k (by simpa using hlt)).trans (u8s_get bs k hlt)
      clear hcell hs
      have hb8 := bs[k].toNat_lt
      have H := Lib.hid (Leb.join_step bs k hlt (by omega))
      go_wp2
      go_round
      case rel => exact ⟨k + 1, by omega, by go_num, by rw [H.out]⟩
      case measure => simp [intOf]; omega
    · go_wp2
      go_ret
      exact ⟨ret_intL (by rw [List.take_of_length_le (by omega)]), rfl⟩

end Go.Proofs.YtbhniddgkdldlaaGreatDoor

/- Contracts of leb.U and leb.S: what each returns, for every input in its range. -/
namespace Go.Proofs.YtbhniddgkdldlaaGreatDoor
open Go.RowKit

def luV : Option (Nat × Nat) → Value
  | some (x, n) => .tuple #[.int .u64 (x : Int), .int .i64 (n : Int), .nilIface]
  | none => .tuple #[.int .u64 0, .int .i64 0, .iface 32 (.int .i64 2)]

theorem U_bad (A : Option Addr) (n c : Nat) (at_ bits : Int) (w : World)
   (h : bits < 1 ∨ 64 < bits ∨ at_ < 0 ∨ n < at_) :
    Calls Tryz.prog 87 #[.slice A n c, .int .i64 at_, .int .i64 bits] w fun e w' => e = .returned (.tuple #[.int .u64 0, .int .i64 0, .iface 32 (.int .i64 1)]) ∧ w = w' := by
  have H := Lib.hid h
  clear h
  go_enter Tryz.func87, Tryz.ntmps87
  go_wp2_with (go_at_call 95; refine (length_bad _ _ _ _ _ _ H.out).mono ?_; rintro e w' ⟨rfl, rfl⟩)
  go_ret3
  exact ⟨rfl, rfl⟩

set_option maxHeartbeats 1000000 in
set_option maxRecDepth 100000 in
theorem U_any (A : Option Addr) (c : Nat) (bs : List UInt8) (k : Nat) (bits : Int) (w : World) (hs : Sl w w.heap.size A (u8s bs)) (hc : bs.length ≤ c) (hm : c ≤ maxLen)
   (h0 : 1 ≤ bits) (h1 : bits ≤ 64) (h3 : k ≤ bs.length) :
    Calls Tryz.prog 87 #[.slice A bs.length c, .int .i64 k, .int .i64 bits] w fun e w' => e = .returned (luV (Leb.uOf bs k bits.toNat)) ∧ ∃ nq, w' = w.drewN nq := by
  have hm' := hm
  unfold maxLen at hm'
  have hlen := length_any A c bs k bits w hs hc hm h0 h1 h3
  cases hl : Leb.lenOf (bs.drop k) ((bits.toNat + 6) / 7) with
  | none =>
    have hfin : Leb.uOf bs k bits.toNat = none := by simp [Leb.uOf, hl]
    have Hfin := Lib.hid hfin
    rw [hl] at hlen
    have HL := Lib.hid hlen
    clear hfin hl hlen
    go_enter Tryz.func87, Tryz.ntmps87
    go_wp2_with (go_at_call 95; refine HL.out.mono ?_; rintro e w' ⟨rfl, rfl⟩; unfold lenV)
    go_ret3
    refine ⟨?_, 0, rfl⟩
    rw [Hfin.out]
    rfl
  | some j =>
    obtain ⟨j1, j2, j3, j4⟩ := Leb.lenOf_of_some _ _ _ hl
    rw [hl] at hlen
    have HL := Lib.hid hlen
    clear hlen
    simp only [List.length_drop] at j3
    obtain ⟨b, off, rfl, hb, hcell⟩ := hs (by intro h; have := congrArg List.length h; simp at this; simp [this] at j3)
    have hcj := (hcell (k + j - 1) (by simp; omega)).trans (u8s_get bs (k + j - 1) (by omega))
    have hget : bs[k + j - 1]?.getD 0 = bs[k + j - 1]'(by omega) := by simp [show k + j - 1 < bs.length by omega]
    obtain ⟨m, hmm⟩ : ∃ m : Nat, (bits + 6) / 7 = m := ⟨((bits + 6) / 7).toNat, by omega⟩
    obtain ⟨q, hq⟩ : ∃ q : Nat, bits - 7 * ((bits + 6) / 7 - 1) = q := ⟨(bits - 7 * ((bits + 6) / 7 - 1)).toNat, by omega⟩
    have em : (bits.toNat + 6) / 7 = m := by omega
    have eq : bits.toNat - 7 * (m - 1) = q := by omega
    have hb8 := (bs[k + j - 1]'(by omega)).toNat_lt
    have hfin : Leb.uOf bs k bits.toNat = if j = m ∧ (bs[k + j - 1]'(by omega)).toNat / 2 ^ q ≠ 0 then none
        else some (Leb.joinOf ((bs.drop k).take j) % 18446744073709551616, k + j) := by
      unfold Leb.uOf
      rw [hl]
      simp only [hget, em, eq]
    obtain ⟨x, hx⟩ : ∃ x, x = (bs[k + j - 1]'(by omega)).toNat := ⟨_, rfl⟩
    rw [← hx] at hfin hcj hb8
    have hsl : Sl w w.heap.size (some ⟨b, off + k, none⟩) (u8s ((bs.drop k).take j)) := by
      have := (hs.drop (k := k) (cap := c) (by simpa using hc)).take j
      rw [if_neg (by omega), ← u8s_drop, ← u8s_take] at this
      by_cases e : k = 0
      · subst e; simpa [Addr.add] using this
      · simpa [Addr.add, e] using this
    have hlj : ((bs.drop k).take j).length = j := by simp; omega
    have hjoin := fun nq => join_any b (off + k) (c - k) ((bs.drop k).take j) (w.drewN nq) (hsl.drewN nq) (by omega)
    rw [hlj] at hjoin
    clear hsl
    have hm10 : m ≤ 10 := by omega
    have hq1 : 1 ≤ q := by omega
    have hq7 : q ≤ 7 := by omega
    rw [em] at j2
    have Hm := Lib.hid hmm
    have Hq := Lib.hid hq
    have HJ := Lib.hid hjoin
    clear hmm hq em eq hx hget hl j4 hlj hjoin hcell hs
    have hck : ¬ c = k := by omega
    have f1 : IntKind.i64.wrap ((k : Int) + j - 1) = (k : Int) + j - 1 := IntWalk.i64_in _ (by omega)
    have f2 : (0 : Int) ≤ (k : Int) + j - 1 := by omega
    have f3 : (k : Int) + j - 1 < bs.length := by omega
    have f4 : ((k : Int) + j - 1).toNat = k + j - 1 := by omega
    have f5 : ((k : Int) + j).toNat = k + j := by omega
    have F1 := Lib.hid f1
    have F4 := Lib.hid f4
    clear f1 f4
    by_cases hjm : j = m
    · subst hjm
      have ez : ((x : Int) / 2 ^ q) = ((x / 2 ^ q : Nat) : Int) := by simp
      by_cases hz : x / 2 ^ q = 0
      · have t1 : ((x : Int) / 2 ^ q != 0) = false := by rw [ez, hz]; rfl
        rw [if_neg (by simp [hz])] at hfin
        have Hfin := Lib.hid hfin
        clear hfin hz ez
        go_enter Tryz.func87, Tryz.ntmps87
        go_wp2_with (go_at_call 95; refine HL.out.mono ?_; rintro e w' ⟨rfl, rfl⟩; unfold lenV)
        have f1 := F1.out
        have f4 := F4.out
        go_quiet (first | (go_at_call 96; exact quiet_same (most_nat _ j _ (by omega) (by omega) Hm.out)) | (go_at_call 97; exact quiet_same (kept_nat _ q _ (by omega) (by omega) Hq.out)))
        clear f1 f4
        go_wp2_with (go_at_call 98; refine (HJ.out _).mono ?_; rintro e w' ⟨rfl, rfl⟩)
        go_ret3
        exact ⟨by rw [Hfin.out]; rfl, _, rfl⟩
      · have t1 : ((x : Int) / 2 ^ q != 0) = true := by rw [ez, bne_iff_ne]; omega
        rw [if_pos (by simp [hz])] at hfin
        have Hfin := Lib.hid hfin
        clear hfin hz ez
        go_enter Tryz.func87, Tryz.ntmps87
        go_wp2_with (go_at_call 95; refine HL.out.mono ?_; rintro e w' ⟨rfl, rfl⟩; unfold lenV)
        have f1 := F1.out
        have f4 := F4.out
        go_quiet (first | (go_at_call 96; exact quiet_same (most_nat _ j _ (by omega) (by omega) Hm.out)) | (go_at_call 97; exact quiet_same (kept_nat _ q _ (by omega) (by omega) Hq.out)))
        clear f1 f4
        go_wp2
        go_ret3
        exact ⟨by rw [Hfin.out]; rfl, _, rfl⟩
    · have t1 : ((j : Int) == (m : Int)) = false := by rw [beq_eq_false_iff_ne]; omega
      rw [if_neg (by simp [hjm])] at hfin
      have Hfin := Lib.hid hfin
      clear hfin
      go_enter Tryz.func87, Tryz.ntmps87
      go_wp2_with (go_at_call 95; refine HL.out.mono ?_; rintro e w' ⟨rfl, rfl⟩; unfold lenV)
      go_quiet (first | (go_at_call 96; exact quiet_same (most_nat _ m _ (by omega) (by omega) Hm.out)))
      go_wp2_with (go_at_call 98; refine (HJ.out _).mono ?_; rintro e w' ⟨rfl, rfl⟩)
      go_ret3
      exact ⟨by rw [Hfin.out]; rfl, _, rfl⟩

def sV : Option (Int × Nat) → Value
  | some (x, n) => .tuple #[.int .i64 x, .int .i64 (n : Int), .nilIface]
  | none => .tuple #[.int .i64 0, .int .i64 0, .iface 32 (.int .i64 2)]

theorem S_bad (A : Option Addr) (n c : Nat) (at_ bits : Int) (w : World)
   (h : bits < 1 ∨ 64 < bits ∨ at_ < 0 ∨ n < at_) :
    Calls Tryz.prog 88 #[.slice A n c, .int .i64 at_, .int .i64 bits] w fun e w' => e = .returned (.tuple #[.int .i64 0, .int .i64 0, .iface 32 (.int .i64 1)]) ∧ w = w' := by
  have H := Lib.hid h
  clear h
  go_enter Tryz.func88, Tryz.ntmps88
  go_wp2_with (go_at_call 95; refine (length_bad _ _ _ _ _ _ H.out).mono ?_; rintro e w' ⟨rfl, rfl⟩)
  go_ret3
  exact ⟨rfl, rfl⟩

set_option maxHeartbeats 1000000 in
set_option maxRecDepth 100000 in
theorem S_any (A : Option Addr) (c : Nat) (bs : List UInt8) (k : Nat) (bits : Int) (w : World) (hs : Sl w w.heap.size A (u8s bs)) (hc : bs.length ≤ c) (hm : c ≤ maxLen)
   (h0 : 1 ≤ bits) (h1 : bits ≤ 64) (h3 : k ≤ bs.length) :
    Calls Tryz.prog 88 #[.slice A bs.length c, .int .i64 k, .int .i64 bits] w fun e w' => e = .returned (sV (Leb.sOf bs k bits.toNat)) ∧ w = w' := by
  have hm' := hm
  unfold maxLen at hm'
  have hlen := length_any A c bs k bits w hs hc hm h0 h1 h3
  cases hl : Leb.lenOf (bs.drop k) ((bits.toNat + 6) / 7) with
  | none =>
    have hfin : Leb.sOf bs k bits.toNat = none := by simp [Leb.sOf, hl]
    have Hfin := Lib.hid hfin
    rw [hl] at hlen
    have HL := Lib.hid hlen
    clear hfin hl hlen
    go_enter Tryz.func88, Tryz.ntmps88
    go_wp2_with (go_at_call 95; refine HL.out.mono ?_; rintro e w' ⟨rfl, rfl⟩; unfold lenV)
    go_ret3
    refine ⟨?_, rfl⟩
    rw [Hfin.out]
    rfl
  | some j =>
    obtain ⟨j1, j2, j3, j4⟩ := Leb.lenOf_of_some _ _ _ hl
    rw [hl] at hlen
    have HL := Lib.hid hlen
    clear hlen
    have j3' := j3
    simp only [List.length_drop] at j3
    obtain ⟨b, off, rfl, hb, hcell⟩ := hs (by intro h; have := congrArg List.length h; simp at this; simp [this] at j3)
    have hcj := (hcell (k + j - 1) (by simp; omega)).trans (u8s_get bs (k + j - 1) (by omega))
    have hget : bs[k + j - 1]?.getD 0 = bs[k + j - 1]'(by omega) := by simp [show k + j - 1 < bs.length by omega]
    have hdj : (bs.drop k)[j - 1] = bs[k + j - 1]'(by omega) := by simp [show k + (j - 1) = k + j - 1 by omega]
    obtain ⟨m, hmm⟩ : ∃ m : Nat, (bits + 6) / 7 = m := ⟨((bits + 6) / 7).toNat, by omega⟩
    obtain ⟨q, hq⟩ : ∃ q : Nat, bits - 7 * ((bits + 6) / 7 - 1) = q := ⟨(bits - 7 * ((bits + 6) / 7 - 1)).toNat, by omega⟩
    have em : (bits.toNat + 6) / 7 = m := by omega
    have eq : bits.toNat - 7 * (m - 1) = q := by omega
    have hlast := Leb.joinOf_last (bs.drop k) j j1 (by omega)
    rw [hdj] at hlast j4
    have hev := fun wx => even_any (bs[k + j - 1]'(by omega)) (q : Int) wx (by omega) (by omega)
    have hfin : Leb.sOf bs k bits.toNat = if j = m ∧ Leb.evenB (bs[k + j - 1]'(by omega)).toNat q = false then none
        else some ((Leb.joinOf ((bs.drop k).take j) : Int) - (if 64 ≤ (bs[k + j - 1]'(by omega)).toNat then 2 ^ (7 * j) else 0), k + j) := by
      unfold Leb.sOf
      rw [hl]
      simp only [hget, em, eq]
    obtain ⟨x, hx⟩ : ∃ x, x = (bs[k + j - 1]'(by omega)).toNat := ⟨_, rfl⟩
    rw [← hx] at hfin hcj hlast j4
    rw [show ((bs[k + j - 1]'(by omega)).toNat : Int) = (x : Int) by rw [hx], ← hx, Int.toNat_natCast] at hev
    have hsl : Sl w w.heap.size (some ⟨b, off + k, none⟩) (u8s ((bs.drop k).take j)) := by
      have := (hs.drop (k := k) (cap := c) (by simpa using hc)).take j
      rw [if_neg (by omega), ← u8s_drop, ← u8s_take] at this
      by_cases e : k = 0
      · subst e; simpa [Addr.add] using this
      · simpa [Addr.add, e] using this
    have hlj : ((bs.drop k).take j).length = j := by simp; omega
    have hjoin := join_any b (off + k) (c - k) ((bs.drop k).take j) w hsl (by omega)
    have hJlt := Leb.joinOf_lt ((bs.drop k).take j)
    rw [hlj] at hjoin hJlt
    rw [em] at j2
    have hm10 : m ≤ 10 := by omega
    have hq1 : 1 ≤ q := by omega
    have hq7 : q ≤ 7 := by omega
    have hq10 : m = 10 → q = 1 := by omega
    have Hm := Lib.hid hmm
    have Hq := Lib.hid hq
    have HE := Lib.hid hev
    have hck : ¬ c = k := by omega
    obtain ⟨J, hJ⟩ : ∃ J, J = Leb.joinOf ((bs.drop k).take j) := ⟨_, rfl⟩
    rw [← hJ] at hfin hjoin hJlt hlast
    have HJ := Lib.hid hjoin
    clear hmm hq em eq hx hget hl hlj hjoin hcell hs hsl hev hdj hJ j3'
    have g1 : ¬ (x % 128 ≠ x) := by omega
    have g2 : x % 128 = x := by omega
    rw [g2] at hlast
    clear g1 g2
    have hz := Leb.and64 x j4
    have hneg : 64 ≤ x → (j = m → Leb.evenB x q = true) → j = 10 → 127 * 2 ^ 63 ≤ J := fun h6 hev h10 => by
      have hm10' : m = 10 := by omega
      have hx : x = 127 := by
        have := hev (by omega)
        rw [hq10 hm10'] at this
        simp [Leb.evenB] at this
        omega
      subst h10 hx
      omega
    have hpos : x < 64 → (j = m → Leb.evenB x q = true) → J < 2 ^ 63 := fun h6 hev => by
      rcases Nat.lt_or_ge j 10 with h10 | h10
      · exact Nat.lt_of_lt_of_le hJlt (Nat.pow_le_pow_right (by omega) (by omega))
      · have hx : x = 0 := by
          have := hev (by omega)
          rw [hq10 (by omega)] at this
          simp [Leb.evenB] at this
          omega
        subst hx
        have : j = 10 := by omega
        subst this
        omega
    have HN := Lib.hid hneg
    have HP := Lib.hid hpos
    have HA := Lib.hid hlast
    clear hneg hpos hlast hq10
    have f2 : (0 : Int) ≤ (k : Int) + j - 1 := by omega
    have f3 : (k : Int) + j - 1 < bs.length := by omega
    have F4 := Lib.hid (show ((k : Int) + j - 1).toNat = k + j - 1 by omega)
    have hx8 : x < 256 := by omega
    have HZ := Lib.hid hz
    clear hz
    by_cases hbad : j = m ∧ Leb.evenB x q = false
    · rw [if_pos hbad] at hfin
      have Hfin := Lib.hid hfin
      obtain ⟨rfl, hev⟩ := hbad
      have he := HE.out
      rw [hev] at he
      have HE2 := Lib.hid he
      clear he hev hfin HE
      go_enter Tryz.func88, Tryz.ntmps88
      have f4 := F4.out
      go_wp2_with (first | (go_at_call 95; refine HL.out.mono ?_; rintro e w' ⟨rfl, rfl⟩; unfold lenV) | (go_at_call 96; refine (most_nat _ j _ (by omega) (by omega) Hm.out).mono ?_; rintro e w' ⟨rfl, rfl⟩) | (go_at_call 97; refine (kept_nat _ q _ (by omega) (by omega) Hq.out).mono ?_; rintro e w' ⟨rfl, rfl⟩) | (go_at_call 99; refine (HE2.out _).mono ?_; rintro e w' ⟨rfl, rfl⟩))
      go_ret3
      exact ⟨by rw [Hfin.out]; rfl, rfl⟩
    · rw [if_neg hbad] at hfin
      have hev : j = m → Leb.evenB x q = true := fun e => by
        cases h : Leb.evenB x q
        · exact absurd ⟨e, h⟩ hbad
        · rfl
      clear hbad
      have hsg : ∃ (u : Int) (v : Nat), Hid (Leb.sOf bs k bits.toNat = some (u, k + j)) ∧ Hid (Go.bits .and .u8 (x : Int) 64 = v) ∧
          (v = 0 ∧ Hid (u = wrap64 ((J : Int) % 18446744073709551616)) ∨ v = 64 ∧ Hid (u = wrap64 (Go.bits .or .u64 ((J : Int) % 18446744073709551616) (IntKind.u64.wrap (18446744073709551615 * 2 ^ (min (j * 7) 64)))))) := by
        by_cases h6 : 64 ≤ x
        · have hv := Leb.sign_join J j hJlt j1 (by omega) (HN.out h6 hev)
          refine ⟨_, 64, Lib.hid ?_, Lib.hid ?_, .inr ⟨rfl, Lib.hid rfl⟩⟩
          · rw [hfin, if_pos h6, hv]
          · rw [HZ.out, if_pos h6]; rfl
        · refine ⟨_, 0, Lib.hid ?_, Lib.hid ?_, .inl ⟨rfl, Lib.hid rfl⟩⟩
          · rw [hfin, if_neg h6, Leb.unsign_join J (HP.out (by omega) hev)]; simp
          · rw [HZ.out, if_neg h6]; rfl
      obtain ⟨u, v, Hfin, HV, hcase⟩ := hsg
      have HE2 : j = m → Hid (∀ wx, Calls Tryz.prog 99 #[.int .u8 (x : Int), .int .i64 (q : Int)] wx fun e w' => e = .returned (.bool true) ∧ wx = w') := fun e => by
        have he := HE.out
        rw [hev e] at he
        exact Lib.hid he
      clear hfin hev HE HN HP HZ
      have f7 : (0 : Int) ≤ (j : Int) * 7 := by omega
      by_cases hjm : j = m
      · have HE3 := HE2 hjm
        clear HE2
        subst hjm
        rcases hcase with ⟨rfl, HU⟩ | ⟨rfl, HU⟩
        all_goals
          go_enter Tryz.func88, Tryz.ntmps88
          have f4 := F4.out
          have f5 := HV.out
          go_wp2_with (first | (go_at_call 95; refine HL.out.mono ?_; rintro e w' ⟨rfl, rfl⟩; unfold lenV) | (go_at_call 96; refine (most_nat _ j _ (by omega) (by omega) Hm.out).mono ?_; rintro e w' ⟨rfl, rfl⟩) | (go_at_call 97; refine (kept_nat _ q _ (by omega) (by omega) Hq.out).mono ?_; rintro e w' ⟨rfl, rfl⟩) | (go_at_call 99; refine (HE3.out _).mono ?_; rintro e w' ⟨rfl, rfl⟩) | (go_at_call 98; refine HJ.out.mono ?_; rintro e w' ⟨rfl, rfl⟩))
          go_ret3
          exact ⟨by rw [Hfin.out, HU.out]; rfl, rfl⟩
      · have t1 : ((j : Int) == (m : Int)) = false := by rw [beq_eq_false_iff_ne]; omega
        clear HE2
        rcases hcase with ⟨rfl, HU⟩ | ⟨rfl, HU⟩
        all_goals
          go_enter Tryz.func88, Tryz.ntmps88
          have f4 := F4.out
          have f5 := HV.out
          go_wp2_with (first | (go_at_call 95; refine HL.out.mono ?_; rintro e w' ⟨rfl, rfl⟩; unfold lenV) | (go_at_call 96; refine (most_nat _ m _ (by omega) (by omega) Hm.out).mono ?_; rintro e w' ⟨rfl, rfl⟩) | (go_at_call 98; refine HJ.out.mono ?_; rintro e w' ⟨rfl, rfl⟩))
          go_ret3
          refine ⟨?_, rfl⟩
          rw [Hfin.out, HU.out]
          try rw [show min (j * 7) 64 = j * 7 by omega]
          rfl

end Go.Proofs.YtbhniddgkdldlaaGreatDoor

/- Contracts of leb.PutU, leb.PutS, leb.Pad: the bytes that each makes, in new memory. -/
namespace Go.Proofs.YtbhniddgkdldlaaGreatDoor
open Go.RowKit

theorem u8s_snoc (l : List UInt8) (n : Nat) (h : n < 256) : u8s (l ++ [UInt8.ofNat n]) = u8s l ++ [.int .u8 (n : Int)] := by
  simp [u8s]; omega
theorem u8_ret (l : List UInt8) (n : Nat) (z : Int) (h : n < 256) (hz : z = (n : Int)) : u8s l ++ [Value.int .u8 z] = u8s (l ++ [UInt8.ofNat n]) := by
  rw [u8s_snoc l n h, hz]
theorem elem_u8 : Elem Tryz.prog 5 1 := Elem.mk_ (z := .int .u8 0) (by kernel_rfl) rfl

set_option maxHeartbeats 1000000 in
set_option maxRecDepth 100000 in
theorem PutU_any (v : Nat) (w : World) (hv : v < 18446744073709551616) :
    Calls Tryz.prog 82 #[.int .u64 v] w fun e w' => ∃ s, e = .returned s ∧ Own w.heap.size w w' 5 s (u8s (Leb.putU v)) := by
  go_enter Tryz.func82, Tryz.ntmps82
  go_wp2
  go_loopw [0, 3] (fun n s wr => ∃ cur pre, n = .int .u64 (cur : Nat) ∧ cur < 18446744073709551616 ∧ Own w.heap.size w wr 5 s (u8s pre) ∧ Hid (pre ++ Leb.putU cur = Leb.putU v)) (fun n _ _ => (intOf n).toNat)
  case atStart => exact ⟨v, [], rfl, hv, Own.nil_ _ _ _ (Below.refl _ _) (Nat.le_refl _), Lib.hid rfl⟩
  case round =>
    obtain ⟨cur, pre, rfl, hcur, hown, HP⟩ := hrel
    have hlen : pre.length ≤ 10 := by
      have h1 := congrArg List.length HP.out
      have h2 := Leb.putU_len10 hv
      rw [List.length_append] at h1
      omega
    by_cases hbig : 127 < cur
    · go_wp2_with (at_builtin; refine wpList_push rfl _ _ _ rfl _ 1 Tryz.underlying26 elem_u8 (by decide) _ _ _ _ _ _ 1 rfl hown rfl rfl (by simp; omega) ?_; intro v' w' hown')
      have e1 := Leb.or128 (cur % 256) (by omega)
      rw [show ((cur : Int) % 256) = ((cur % 256 : Nat) : Int) by simp, e1, show cur % 256 % 128 = cur % 128 by omega, ← u8s_snoc _ _ (by omega)] at hown'
      go_roundw
      case rel => exact ⟨cur / 128, _, by simp, by omega, hown', Lib.hid (by rw [List.append_assoc, List.singleton_append, ← Leb.putU_big (by omega)]; exact HP.out)⟩
      case measure => simp [intOf]; omega
    · go_wp2_with (at_builtin; refine wpList_push rfl _ _ _ rfl _ 1 Tryz.underlying26 elem_u8 (by decide) _ _ _ _ _ _ 1 rfl hown rfl rfl (by simp; omega) ?_; intro v' w' hown')
      rw [← u8s_snoc _ _ (by omega), ← Leb.putU_small (by omega), HP.out] at hown'
      go_ret
      exact ⟨_, rfl, hown'⟩

set_option maxHeartbeats 1000000 in
set_option maxRecDepth 100000 in
theorem PutS_any (v : Int) (w : World) (hv1 : -9223372036854775808 ≤ v) (hv2 : v < 9223372036854775808) :
    Calls Tryz.prog 58 #[.int .i64 v] w fun e w' => ∃ s, e = .returned s ∧ Own w.heap.size w w' 5 s (u8s (Leb.putS v)) := by
  go_enter Tryz.func58, Tryz.ntmps58
  go_wp2
  go_loopw [0, 3] (fun n s wr => ∃ (cur : Int) (pre : List UInt8), n = .int .i64 cur ∧ -9223372036854775808 ≤ cur ∧ cur < 9223372036854775808 ∧ Own w.heap.size w wr 5 s (u8s pre) ∧ Hid (pre ++ Leb.putS cur = Leb.putS v)) (fun n _ _ => (intOf n).natAbs)
  case atStart => exact ⟨v, [], rfl, hv1, hv2, Own.nil_ _ _ _ (Below.refl _ _) (Nat.le_refl _), Lib.hid rfl⟩
  case round =>
    obtain ⟨cur, pre, rfl, hc1, hc2, hown, HP⟩ := hrel
    have hlen : pre.length ≤ 10 := by
      have h1 := congrArg List.length HP.out
      have h2 := Leb.putS_len10 hv1 hv2
      rw [List.length_append] at h1
      omega
    by_cases hbig : -64 ≤ cur ∧ cur < 64
    · obtain ⟨b1, b2⟩ := hbig
      have t1 : decide (cur < -64) = false := by simp; omega
      have t2 : decide (64 ≤ cur) = false := by simp; omega
      go_wp2_with (at_builtin; refine wpList_push rfl _ _ _ rfl _ 1 Tryz.underlying26 elem_u8 (by decide) _ _ _ _ _ _ 1 rfl hown rfl rfl (by simp; omega) ?_; intro v' w' hown')
      have e1 : bits .and .u8 (cur % 256) 127 = (((cur % 128).toNat : Nat) : Int) := by
        obtain ⟨q, hq⟩ : ∃ q : Nat, cur % 256 = q := ⟨(cur % 256).toNat, by omega⟩
        rw [hq, show (127 : Int) = ((127 : Nat) : Int) from rfl, u8_and_nat q 127 (by omega) (by omega), nat_mask7]
        omega
      rw [e1, ← u8s_snoc _ _ (by omega), ← Leb.putS_small ⟨b1, b2⟩, HP.out] at hown'
      go_ret
      exact ⟨_, rfl, hown'⟩
    · have H2 := Lib.hid (Leb.putS_big hbig)
      have hb2 : cur < -64 ∨ 64 ≤ cur := by omega
      clear hbig
      by_cases b1 : cur < -64
      all_goals
        go_wp2_with (at_builtin; refine wpList_push rfl _ _ _ rfl _ 1 Tryz.underlying26 elem_u8 (by decide) _ _ _ _ _ _ 1 rfl hown rfl rfl (by simp; omega) ?_; intro v' w' hown')
        obtain ⟨q, hq⟩ : ∃ q : Nat, cur % 256 = q := ⟨(cur % 256).toNat, by omega⟩
        rw [hq, Leb.or128 q (by omega), show q % 128 = (cur % 128).toNat by omega, ← u8s_snoc _ _ (by omega)] at hown'
        go_roundw
        case rel => exact ⟨cur / 128, _, by simp, by omega, by omega, hown', Lib.hid (by rw [List.append_assoc, List.singleton_append, ← H2.out]; exact HP.out)⟩
        case measure => simp [intOf]; omega

end Go.Proofs.YtbhniddgkdldlaaGreatDoor

/- The head of the statements of layer 1 (grommetlaw01.up) returns true; nothing that was there changes. -/
namespace Go.Proofs.YtbhniddgkdldlaaGreatDoor
open Go.RowKit

theorem below_drewN {B : Nat} {a w : World} (h : Below B a w) (n : Nat) : Below B a (w.drewN n) := ⟨h.os, h.tape, h.output, h.size, h.block⟩

/-- leb.U in the words that a caller has: any length and place, as numbers. -/
theorem U_int {A : Option Addr} {n c : Nat} {bs : List UInt8} {at_ bits : Int} {w : World} {B : Nat} (r : Option (Nat × Nat)) (hs : Sl w B A (u8s bs)) (hB : B ≤ w.heap.size) (hn : bs.length = n) (hc : n ≤ c) (hm : c ≤ maxLen)
   (h0 : 1 ≤ bits) (h1 : bits ≤ 64) (h2 : 0 ≤ at_) (h3 : at_ ≤ n) (hr : Leb.uOf bs at_.toNat bits.toNat = r) :
    Calls Tryz.prog 87 #[.slice A n c, .int .i64 at_, .int .i64 bits] w fun e w' => e = .returned (luV r) ∧ ∃ nq, w' = w.drewN nq := by
  subst hn hr
  obtain ⟨k, rfl⟩ := Int.eq_ofNat_of_zero_le h2
  exact U_any A c bs k bits w (hs.more hB) hc hm h0 h1 (by omega)
theorem S_int {A : Option Addr} {n c : Nat} {bs : List UInt8} {at_ bits : Int} {w : World} {B : Nat} (r : Option (Int × Nat)) (hs : Sl w B A (u8s bs)) (hB : B ≤ w.heap.size) (hn : bs.length = n) (hc : n ≤ c) (hm : c ≤ maxLen)
   (h0 : 1 ≤ bits) (h1 : bits ≤ 64) (h2 : 0 ≤ at_) (h3 : at_ ≤ n) (hr : Leb.sOf bs at_.toNat bits.toNat = r) :
    Calls Tryz.prog 88 #[.slice A n c, .int .i64 at_, .int .i64 bits] w fun e w' => e = .returned (sV r) ∧ w = w' := by
  subst hn hr
  obtain ⟨k, rfl⟩ := Int.eq_ofNat_of_zero_le h2
  exact S_any A c bs k bits w (hs.more hB) hc hm h0 h1 (by omega)

/-- a literal slice of bytes. -/
theorem Sl.lit (w : World) (bs : List UInt8) (e : TypeId) : Sl (w.alloc (.cells (u8s bs).toArray e)) (w.alloc (.cells (u8s bs).toArray e)).heap.size (some ⟨w.heap.size, 0, none⟩) (u8s bs) := fun _ =>
  ⟨w.heap.size, 0, rfl, by simp, fun i hi => by
    have := cell_of_row (w.alloc (.cells (u8s bs).toArray e)) w.heap.size i _ e (0, 0) (heap_alloc_new w _)
    rw [Nat.zero_add, this]; simp⟩

theorem Leb.up1 : Leb.uOf [229, 142, 38] 0 32 = some (624485, 3) := by decide
theorem Leb.up2 : Leb.sOf [127] 0 32 = some (-1, 1) := by decide
theorem Leb.up3 : Leb.putS 64 = [192, 0] := by
  rw [Leb.putS_big (by decide), Leb.putS_small (by decide)]; decide


end Go.Proofs.YtbhniddgkdldlaaGreatDoor

/- The walk of LebStays: it returns true, whatever the input; nothing that was there changes. -/
namespace Go.Proofs.YtbhniddgkdldlaaGreatDoor
open Go.RowKit

theorem u8s_one (bs : List UInt8) : ∀ u ∈ u8s bs, u.oneCell' = true := by
  intro u hu
  simp only [u8s, List.mem_map] at hu
  obtain ⟨b, _, rfl⟩ := hu
  rfl

/-- leb.U at whatever place: it returns, and leaves memory alone. -/
theorem U_tot {A : Option Addr} {n c : Nat} {bs : List UInt8} {w : World} {B : Nat} (at_ bits : Int) (hs : Sl w B A (u8s bs)) (hB : B ≤ w.heap.size) (hn : bs.length = n) (hc : n ≤ c) (hm : c ≤ maxLen) :
    Calls Tryz.prog 87 #[.slice A n c, .int .i64 at_, .int .i64 bits] w fun e w' => (∃ r, e = .returned r) ∧ ∃ nq, w' = w.drewN nq := by
  by_cases h : bits < 1 ∨ 64 < bits ∨ at_ < 0 ∨ n < at_
  · exact (U_bad A n c at_ bits w h).mono fun e w' ⟨h1, h2⟩ => ⟨⟨_, h1⟩, 0, h2.symm⟩
  · exact (U_int _ hs hB hn hc hm (by omega) (by omega) (by omega) (by omega) rfl).mono fun e w' ⟨h1, h2⟩ => ⟨⟨_, h1⟩, h2⟩
theorem S_tot {A : Option Addr} {n c : Nat} {bs : List UInt8} {w : World} {B : Nat} (at_ bits : Int) (hs : Sl w B A (u8s bs)) (hB : B ≤ w.heap.size) (hn : bs.length = n) (hc : n ≤ c) (hm : c ≤ maxLen) :
    Calls Tryz.prog 88 #[.slice A n c, .int .i64 at_, .int .i64 bits] w fun e w' => (∃ r, e = .returned r) ∧ w = w' := by
  by_cases h : bits < 1 ∨ 64 < bits ∨ at_ < 0 ∨ n < at_
  · exact (S_bad A n c at_ bits w h).mono fun e w' ⟨h1, h2⟩ => ⟨⟨_, h1⟩, h2⟩
  · exact (S_int _ hs hB hn hc hm (by omega) (by omega) (by omega) (by omega) rfl).mono fun e w' ⟨h1, h2⟩ => ⟨⟨_, h1⟩, h2⟩

theorem Leb.putU_head (v : Nat) : ((Leb.putU v)[0]'(Leb.putU_pos v)).toNat % 128 = v % 128 := by
  have h : ∀ l : List UInt8, ∀ h : 0 < l.length, Leb.joinOf l % 128 = (l[0]).toNat % 128 := fun l h => by
    cases l with
    | nil => simp at h
    | cons b r => rw [Leb.joinOf, List.getElem_cons_zero]; omega
  rw [← h, Leb.putU_join]

theorem Own.cellk {B : Nat} {w0 w : World} {e : TypeId} {xs : List Value} {g c n : Nat} (h : Own B w0 w e (.slice (some ⟨g, 0, none⟩) n c) xs) (hn : xs.length = n) (j : Nat) (hj : j < n) :
    (∃ u, w.cell? ⟨g, j, none⟩ = some u) ∧ w.frozen? ⟨g, j, none⟩ = false := by
  subst hn
  have := h.row.cellAt j (by omega)
  rw [List.getElem?_eq_getElem hj] at this
  exact ⟨⟨_, this⟩, h.row.frozenAt j⟩
theorem Own.storek {B : Nat} {w0 w : World} {e : TypeId} {xs : List Value} {g c n : Nat} (h : Own B w0 w e (.slice (some ⟨g, 0, none⟩) n c) xs) (hn : xs.length = n) (hg : B ≤ g) (j : Nat) (u : Value) :
    Own B w0 (w.setCell ⟨g, j, none⟩ u) e (.slice (some ⟨g, 0, none⟩) n c) (xs.set j u) ∧ (xs.set j u).length = n := by
  subst hn
  exact ⟨h.store hg j u, by simp⟩


end Go.Proofs.YtbhniddgkdldlaaGreatDoor
