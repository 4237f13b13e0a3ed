/- Contracts of leb.most, leb.kept, leb.even, leb.length, leb.join: what each returns, for every input in its range. -/
import Derived.Test.YthkdpcoacjgomaaDoorMem
import Derived.Test.YthkdpcoacjgomaaDoorLebM
import Derived.Laws.BitsAllLaws
import Derived.Laws.ShiftsVarLaws
import Derived.IntWalk
import Derived.Test.YthkdpcoacjgomaaDoorOwn
import Derived.OpenShut
set_option linter.unusedVariables false
set_option linter.unusedSimpArgs false
namespace Go.Proofs.YthkdpcoacjgomaaDoor
open Go.RowKit

theorem ret_intL {k : IntKind} {a b : Int} (h : a = b) : Ending.returned (.int k a) = .returned (.int k b) := by rw [h]
theorem ret_boolL {a b : Bool} (h : a = b) : Ending.returned (.bool a) = .returned (.bool b) := by rw [h]

theorem ret3 {a b c a' b' c' : Value} (h1 : a = a') (h2 : b = b') (h3 : c = c') : Ending.returned (.tuple #[a, b, c]) = .returned (.tuple #[a', b', c']) := by rw [h1, h2, h3]

theorem most_any (n : Int) (w : World) (h0 : 1 ≤ n) (h1 : n ≤ 64) :
    Calls Tryd.prog 38 #[.int .i64 n] w fun e w' => e = .returned (.int .i64 ((n + 6) / 7)) ∧ w = w' := by
  go_enter Tryd.func38, Tryd.ntmps38
  go_wp2
  go_ret
  exact ⟨ret_intL (by omega), rfl⟩

theorem most_nat (n : Int) (m : Nat) (w : World) (h0 : 1 ≤ n) (h1 : n ≤ 64) (hm : (n + 6) / 7 = m) :
    Calls Tryd.prog 38 #[.int .i64 n] w fun e w' => e = .returned (.int .i64 m) ∧ w = w' := by
  rw [← hm]; exact most_any n w h0 h1

theorem kept_any (n : Int) (w : World) (h0 : 1 ≤ n) (h1 : n ≤ 64) :
    Calls Tryd.prog 39 #[.int .i64 n] w fun e w' => e = .returned (.int .i64 (n - 7 * ((n + 6) / 7 - 1))) ∧ w = w' := by
  go_enter Tryd.func39, Tryd.ntmps39
  go_wp2_with (go_at_call 38; refine (most_any _ _ (by omega) (by omega)).mono ?_; rintro e w' ⟨rfl, rfl⟩)
  go_ret
  exact ⟨rfl, rfl⟩

theorem kept_nat (n : Int) (q : Nat) (w : World) (h0 : 1 ≤ n) (h1 : n ≤ 64) (hq : n - 7 * ((n + 6) / 7 - 1) = q) :
    Calls Tryd.prog 39 #[.int .i64 n] w fun e w' => e = .returned (.int .i64 q) ∧ w = w' := by
  rw [← hq]; exact kept_any n w h0 h1


/-- what leb.length returns. -/
def lenV : Option Nat → Value
  | some j => .tuple #[.int .i64 j, .nilIface]
  | none => .tuple #[.int .i64 0, .iface 41 (.int .i64 2)]

set_option maxHeartbeats 400000 in
theorem length_bad (A : Option Addr) (n c : Nat) (at_ bits : Int) (w : World) 
   (h : bits < 1 ∨ 64 < bits ∨ at_ < 0 ∨ n < at_) :
    Calls Tryd.prog 37 #[.slice A n c, .int .i64 at_, .int .i64 bits] w fun e w' => e = .returned (.tuple #[.int .i64 0, .iface 41 (.int .i64 1)]) ∧ w = w' := by
  by_cases h1 : bits < 1
  · go_enter Tryd.func37, Tryd.ntmps37
    go_wp2
    go_ret2
    exact ⟨rfl, rfl⟩
  by_cases h2 : 64 < bits
  · go_enter Tryd.func37, Tryd.ntmps37
    go_wp2
    go_ret2
    exact ⟨rfl, rfl⟩
  by_cases h3 : at_ < 0
  · go_enter Tryd.func37, Tryd.ntmps37
    go_wp2
    go_ret2
    exact ⟨rfl, rfl⟩
  have h4 : n < at_ := by omega
  clear h
  go_enter Tryd.func37, Tryd.ntmps37
  go_wp2
  go_ret2
  exact ⟨rfl, rfl⟩

set_option maxHeartbeats 1000000 in
set_option maxRecDepth 100000 in
theorem length_any (A : Option Addr) (c : Nat) (bs : List UInt8) (k : Nat) (bits : Int) (w : World) (hs : Sl w w.heap.size A (u8s bs)) (hc : bs.length ≤ c) (hm : c ≤ maxLen)
   (h0 : 1 ≤ bits) (h1 : bits ≤ 64) (h3 : k ≤ bs.length) :
    Calls Tryd.prog 37 #[.slice A bs.length c, .int .i64 k, .int .i64 bits] w fun e w' => e = .returned (lenV (Leb.lenOf (bs.drop k) ((bits.toNat + 6) / 7))) ∧ w = w' := by
  unfold maxLen at hm
  have t1 : decide (bits < 1) = false := by simp; omega
  have t2 : decide (64 < bits) = false := by simp; omega
  have t3 : decide (bs.length < k) = false := by simp; omega
  by_cases hlt : k < bs.length
  · obtain ⟨b, off, rfl, hb, hcell⟩ := hs (by intro h; have := congrArg List.length h; simp at this; simp [this] at hlt)
    have hck : ¬ c = k := by omega
    obtain ⟨m, hm⟩ : ∃ m : Nat, (bits + 6) / 7 = m := ⟨((bits + 6) / 7).toNat, by omega⟩
    have hm10 : m ≤ 10 := by omega
    have em : (bits.toNat + 6) / 7 = m := by omega
    rw [em]
    have Hm := Lib.hid hm
    clear hm em
    have HF := Lib.hid (fun (l : List UInt8) j => Leb.lenOf_none l j)
    have HS := Lib.hid (fun (l : List UInt8) i j => Leb.lenOf_some l i j)
    have HC := Lib.hid hcell
    clear hcell
    by_cases hmin : (m : Int) < ((bs.length - k : Nat) : Int)
    all_goals
      go_enter Tryd.func37, Tryd.ntmps37
      go_wp2_with (go_at_call 38; refine (most_nat _ m _ (by omega) (by omega) Hm.out).mono ?_; rintro e w' ⟨rfl, rfl⟩)
      go_loop [39] (fun i => ∃ j : Nat, j ≤ m ∧ j ≤ bs.length - k ∧ i = .int .i64 j ∧ Hid (∀ i (h : i < (bs.drop k).length), i < j → 128 ≤ ((bs.drop k)[i]).toNat)) (fun i => m - (intOf i).toNat)
      case atStart => exact ⟨0, Nat.zero_le _, Nat.zero_le _, rfl, Lib.hid (fun i _ h => absurd h (by omega))⟩
      case round =>
        obtain ⟨j, hj1, hj2, rfl, HJ⟩ := hrel
        by_cases hj : j < m ∧ j < bs.length - k
        · obtain ⟨hjm, hjn⟩ := hj
          have hl : j < (bs.drop k).length := by simp; omega
          have hcj := (HC.out (k + j) (by simp; omega)).trans (u8s_get bs (k + j) (by omega))
          have hbj : bs[k + j]'(by omega) = (bs.drop k)[j] := by simp
          rw [hbj] at hcj
          clear hbj
          rw [show off + (k + j) = off + k + j by omega] at hcj
          have hb8 := ((bs.drop k)[j]).toNat_lt
          by_cases hbig : ((bs.drop k)[j]).toNat < 128
          · have hfin := HS.out (bs.drop k) m j hl hjm hbig HJ.out
            have Hfin := Lib.hid hfin
            clear hfin
            obtain ⟨x, hx⟩ : ∃ x, x = ((bs.drop k)[j]).toNat := ⟨_, rfl⟩
            rw [← hx] at hcj hb8 hbig
            clear hx
            go_wp2
            go_ret2
            refine ⟨?_, rfl⟩
            rw [Hfin.out]
            rfl
          · have HJ2 := Lib.hid (show ∀ i (h : i < (bs.drop k).length), i < j + 1 → 128 ≤ ((bs.drop k)[i]).toNat from fun i h hij => by
              rcases Nat.lt_or_ge i j with h1 | h1
              · exact HJ.out i h h1
              · have : i = j := by omega
                subst this; omega)
            obtain ⟨x, hx⟩ : ∃ x, x = ((bs.drop k)[j]).toNat := ⟨_, rfl⟩
            rw [← hx] at hcj hb8 hbig
            clear hx
            go_wp2
            go_round
            case rel => exact ⟨j + 1, by omega, by omega, by go_num, HJ2⟩
            case measure => simp [intOf]; omega
        · have hfin := HF.out (bs.drop k) m (fun i h hij => HJ.out i h (by simp at h; omega))
          have Hfin := Lib.hid hfin
          clear hfin
          first | (have hx : ¬ j < m := by omega) | (have hx : ¬ j < bs.length - k := by omega)
          go_wp2
          go_ret2
          refine ⟨?_, rfl⟩
          rw [Hfin.out]
          rfl
  · have hk : k = bs.length := by omega
    subst hk
    clear hs
    have e0 : bs.drop bs.length = [] := by simp
    rw [e0]
    clear h3 t3 hlt e0
    have t3 : decide (bs.length < bs.length) = false := by simp
    have t4 : ¬ ((bits + 6) / 7 < ((bs.length - bs.length : Nat) : Int)) := by omega
    by_cases hck : c = bs.length
    all_goals
      go_enter Tryd.func37, Tryd.ntmps37
      go_wp2_with (go_at_call 38; refine (most_any _ _ (by omega) (by omega)).mono ?_; rintro e w' ⟨rfl, rfl⟩)
      refine wp_loop_rounds 1 ?_
      rw [rounds_succ]
      go_wp2
      go_ret2
      exact ⟨rfl, rfl⟩

set_option maxHeartbeats 400000 in
theorem join_any (b off c : Nat) (bs : List UInt8) (w : World) (hs : Sl w w.heap.size (some ⟨b, off, none⟩) (u8s bs)) (hc : bs.length ≤ 10) :
    Calls Tryd.prog 40 #[.slice (some ⟨b, off, none⟩) bs.length c] w fun e w' => e = .returned (.int .u64 (Leb.joinOf bs % 18446744073709551616 : Nat)) ∧ w = w' := by
  go_enter Tryd.func40, Tryd.ntmps40
  go_wp2
  go_loop [3, 8] (fun v i => ∃ k : Nat, k ≤ bs.length ∧ i = .int .i64 k ∧ v = .int .u64 (Leb.joinOf (bs.take k) % 18446744073709551616 : Nat)) (fun _ i => bs.length - (intOf i).toNat)
  case atStart => exact ⟨0, Nat.zero_le _, rfl, rfl⟩
  case round =>
    obtain ⟨k, hk, rfl, rfl⟩ := hrel
    by_cases hlt : k < bs.length
    · obtain ⟨b', off', e, hb, hcell⟩ := hs (by intro h; have := congrArg List.length h; simp at this; simp [this] at hlt)
      injection e with e; injection e with e1 e2; subst e1 e2
      have hc := (hcell k (by simpa using hlt)).trans (u8s_get bs k hlt)
      clear hcell hs
      have hb8 := bs[k].toNat_lt
      have H := Lib.hid (Leb.join_step bs k hlt (by omega))
      go_wp2
      go_round
      case rel => exact ⟨k + 1, by omega, by go_num, by rw [H.out]⟩
      case measure => simp [intOf]; omega
    · go_wp2
      go_ret
      exact ⟨ret_intL (by rw [List.take_of_length_le (by omega)]), rfl⟩

end Go.Proofs.YthkdpcoacjgomaaDoor

/- Contracts of leb.U and leb.S: what each returns, for every input in its range. -/
namespace Go.Proofs.YthkdpcoacjgomaaDoor
open Go.RowKit

def luV : Option (Nat × Nat) → Value
  | some (x, n) => .tuple #[.int .u64 (x : Int), .int .i64 (n : Int), .nilIface]
  | none => .tuple #[.int .u64 0, .int .i64 0, .iface 41 (.int .i64 2)]

theorem U_bad (A : Option Addr) (n c : Nat) (at_ bits : Int) (w : World)
   (h : bits < 1 ∨ 64 < bits ∨ at_ < 0 ∨ n < at_) :
    Calls Tryd.prog 28 #[.slice A n c, .int .i64 at_, .int .i64 bits] w fun e w' => e = .returned (.tuple #[.int .u64 0, .int .i64 0, .iface 41 (.int .i64 1)]) ∧ w = w' := by
  have H := Lib.hid h
  clear h
  go_enter Tryd.func28, Tryd.ntmps28
  go_wp2_with (go_at_call 37; refine (length_bad _ _ _ _ _ _ H.out).mono ?_; rintro e w' ⟨rfl, rfl⟩)
  go_ret3
  exact ⟨rfl, rfl⟩

set_option maxHeartbeats 1000000 in
set_option maxRecDepth 100000 in
theorem U_any (A : Option Addr) (c : Nat) (bs : List UInt8) (k : Nat) (bits : Int) (w : World) (hs : Sl w w.heap.size A (u8s bs)) (hc : bs.length ≤ c) (hm : c ≤ maxLen)
   (h0 : 1 ≤ bits) (h1 : bits ≤ 64) (h3 : k ≤ bs.length) :
    Calls Tryd.prog 28 #[.slice A bs.length c, .int .i64 k, .int .i64 bits] w fun e w' => e = .returned (luV (Leb.uOf bs k bits.toNat)) ∧ ∃ nq, w' = w.drewN nq := by
  have hm' := hm
  unfold maxLen at hm'
  have hlen := length_any A c bs k bits w hs hc hm h0 h1 h3
  cases hl : Leb.lenOf (bs.drop k) ((bits.toNat + 6) / 7) with
  | none =>
    have hfin : Leb.uOf bs k bits.toNat = none := by simp [Leb.uOf, hl]
    have Hfin := Lib.hid hfin
    rw [hl] at hlen
    have HL := Lib.hid hlen
    clear hfin hl hlen
    go_enter Tryd.func28, Tryd.ntmps28
    go_wp2_with (go_at_call 37; refine HL.out.mono ?_; rintro e w' ⟨rfl, rfl⟩; unfold lenV)
    go_ret3
    refine ⟨?_, 0, rfl⟩
    rw [Hfin.out]
    rfl
  | some j =>
    obtain ⟨j1, j2, j3, j4⟩ := Leb.lenOf_of_some _ _ _ hl
    rw [hl] at hlen
    have HL := Lib.hid hlen
    clear hlen
    simp only [List.length_drop] at j3
    obtain ⟨b, off, rfl, hb, hcell⟩ := hs (by intro h; have := congrArg List.length h; simp at this; simp [this] at j3)
    have hcj := (hcell (k + j - 1) (by simp; omega)).trans (u8s_get bs (k + j - 1) (by omega))
    have hget : bs[k + j - 1]?.getD 0 = bs[k + j - 1]'(by omega) := by simp [show k + j - 1 < bs.length by omega]
    obtain ⟨m, hmm⟩ : ∃ m : Nat, (bits + 6) / 7 = m := ⟨((bits + 6) / 7).toNat, by omega⟩
    obtain ⟨q, hq⟩ : ∃ q : Nat, bits - 7 * ((bits + 6) / 7 - 1) = q := ⟨(bits - 7 * ((bits + 6) / 7 - 1)).toNat, by omega⟩
    have em : (bits.toNat + 6) / 7 = m := by omega
    have eq : bits.toNat - 7 * (m - 1) = q := by omega
    have hb8 := (bs[k + j - 1]'(by omega)).toNat_lt
    have hfin : Leb.uOf bs k bits.toNat = if j = m ∧ (bs[k + j - 1]'(by omega)).toNat / 2 ^ q ≠ 0 then none
        else some (Leb.joinOf ((bs.drop k).take j) % 18446744073709551616, k + j) := by
      unfold Leb.uOf
      rw [hl]
      simp only [hget, em, eq]
    obtain ⟨x, hx⟩ : ∃ x, x = (bs[k + j - 1]'(by omega)).toNat := ⟨_, rfl⟩
    rw [← hx] at hfin hcj hb8
    have hsl : Sl w w.heap.size (some ⟨b, off + k, none⟩) (u8s ((bs.drop k).take j)) := by
      have := (hs.drop (k := k) (cap := c) (by simpa using hc)).take j
      rw [if_neg (by omega), ← u8s_drop, ← u8s_take] at this
      by_cases e : k = 0
      · subst e; simpa [Addr.add] using this
      · simpa [Addr.add, e] using this
    have hlj : ((bs.drop k).take j).length = j := by simp; omega
    have hjoin := fun nq => join_any b (off + k) (c - k) ((bs.drop k).take j) (w.drewN nq) (hsl.drewN nq) (by omega)
    rw [hlj] at hjoin
    clear hsl
    have hm10 : m ≤ 10 := by omega
    have hq1 : 1 ≤ q := by omega
    have hq7 : q ≤ 7 := by omega
    rw [em] at j2
    have Hm := Lib.hid hmm
    have Hq := Lib.hid hq
    have HJ := Lib.hid hjoin
    clear hmm hq em eq hx hget hl j4 hlj hjoin hcell hs
    have hck : ¬ c = k := by omega
    have f1 : IntKind.i64.wrap ((k : Int) + j - 1) = (k : Int) + j - 1 := IntWalk.i64_in _ (by omega)
    have f2 : (0 : Int) ≤ (k : Int) + j - 1 := by omega
    have f3 : (k : Int) + j - 1 < bs.length := by omega
    have f4 : ((k : Int) + j - 1).toNat = k + j - 1 := by omega
    have f5 : ((k : Int) + j).toNat = k + j := by omega
    have F1 := Lib.hid f1
    have F4 := Lib.hid f4
    clear f1 f4
    by_cases hjm : j = m
    · subst hjm
      have ez : ((x : Int) / 2 ^ q) = ((x / 2 ^ q : Nat) : Int) := by simp
      by_cases hz : x / 2 ^ q = 0
      · have t1 : ((x : Int) / 2 ^ q != 0) = false := by rw [ez, hz]; rfl
        rw [if_neg (by simp [hz])] at hfin
        have Hfin := Lib.hid hfin
        clear hfin hz ez
        go_enter Tryd.func28, Tryd.ntmps28
        go_wp2_with (go_at_call 37; refine HL.out.mono ?_; rintro e w' ⟨rfl, rfl⟩; unfold lenV)
        have f1 := F1.out
        have f4 := F4.out
        go_quiet (first | (go_at_call 38; exact quiet_same (most_nat _ j _ (by omega) (by omega) Hm.out)) | (go_at_call 39; exact quiet_same (kept_nat _ q _ (by omega) (by omega) Hq.out)))
        clear f1 f4
        go_wp2_with (go_at_call 40; refine (HJ.out _).mono ?_; rintro e w' ⟨rfl, rfl⟩)
        go_ret3
        exact ⟨by rw [Hfin.out]; rfl, _, rfl⟩
      · have t1 : ((x : Int) / 2 ^ q != 0) = true := by rw [ez, bne_iff_ne]; omega
        rw [if_pos (by simp [hz])] at hfin
        have Hfin := Lib.hid hfin
        clear hfin hz ez
        go_enter Tryd.func28, Tryd.ntmps28
        go_wp2_with (go_at_call 37; refine HL.out.mono ?_; rintro e w' ⟨rfl, rfl⟩; unfold lenV)
        have f1 := F1.out
        have f4 := F4.out
        go_quiet (first | (go_at_call 38; exact quiet_same (most_nat _ j _ (by omega) (by omega) Hm.out)) | (go_at_call 39; exact quiet_same (kept_nat _ q _ (by omega) (by omega) Hq.out)))
        clear f1 f4
        go_wp2
        go_ret3
        exact ⟨by rw [Hfin.out]; rfl, _, rfl⟩
    · have t1 : ((j : Int) == (m : Int)) = false := by rw [beq_eq_false_iff_ne]; omega
      rw [if_neg (by simp [hjm])] at hfin
      have Hfin := Lib.hid hfin
      clear hfin
      go_enter Tryd.func28, Tryd.ntmps28
      go_wp2_with (go_at_call 37; refine HL.out.mono ?_; rintro e w' ⟨rfl, rfl⟩; unfold lenV)
      go_quiet (first | (go_at_call 38; exact quiet_same (most_nat _ m _ (by omega) (by omega) Hm.out)))
      go_wp2_with (go_at_call 40; refine (HJ.out _).mono ?_; rintro e w' ⟨rfl, rfl⟩)
      go_ret3
      exact ⟨by rw [Hfin.out]; rfl, _, rfl⟩

def sV : Option (Int × Nat) → Value
  | some (x, n) => .tuple #[.int .i64 x, .int .i64 (n : Int), .nilIface]
  | none => .tuple #[.int .i64 0, .int .i64 0, .iface 41 (.int .i64 2)]



end Go.Proofs.YthkdpcoacjgomaaDoor

/- Contracts of leb.PutU, leb.PutS, leb.Pad: the bytes that each makes, in new memory. -/
namespace Go.Proofs.YthkdpcoacjgomaaDoor
open Go.RowKit

theorem u8s_snoc (l : List UInt8) (n : Nat) (h : n < 256) : u8s (l ++ [UInt8.ofNat n]) = u8s l ++ [.int .u8 (n : Int)] := by
  simp [u8s]; omega
theorem u8_ret (l : List UInt8) (n : Nat) (z : Int) (h : n < 256) (hz : z = (n : Int)) : u8s l ++ [Value.int .u8 z] = u8s (l ++ [UInt8.ofNat n]) := by
  rw [u8s_snoc l n h, hz]
theorem elem_u8 : Elem Tryd.prog 5 1 := Elem.mk_ (z := .int .u8 0) (by kernel_rfl) rfl

set_option maxHeartbeats 1000000 in
set_option maxRecDepth 100000 in
theorem PutU_any (v : Nat) (w : World) (hv : v < 18446744073709551616) :
    Calls Tryd.prog 24 #[.int .u64 v] w fun e w' => ∃ s, e = .returned s ∧ Own w.heap.size w w' 5 s (u8s (Leb.putU v)) := by
  go_enter Tryd.func24, Tryd.ntmps24
  go_wp2
  go_loopw [0, 3] (fun n s wr => ∃ cur pre, n = .int .u64 (cur : Nat) ∧ cur < 18446744073709551616 ∧ Own w.heap.size w wr 5 s (u8s pre) ∧ Hid (pre ++ Leb.putU cur = Leb.putU v)) (fun n _ _ => (intOf n).toNat)
  case atStart => exact ⟨v, [], rfl, hv, Own.nil_ _ _ _ (Below.refl _ _) (Nat.le_refl _), Lib.hid rfl⟩
  case round =>
    obtain ⟨cur, pre, rfl, hcur, hown, HP⟩ := hrel
    have hlen : pre.length ≤ 10 := by
      have h1 := congrArg List.length HP.out
      have h2 := Leb.putU_len10 hv
      rw [List.length_append] at h1
      omega
    by_cases hbig : 127 < cur
    · go_wp2_with (at_builtin; refine wpList_push rfl _ _ _ rfl _ 1 Tryd.underlying22 elem_u8 (by decide) _ _ _ _ _ _ 1 rfl hown rfl rfl (by simp; omega) ?_; intro v' w' hown')
      have e1 := Leb.or128 (cur % 256) (by omega)
      rw [show ((cur : Int) % 256) = ((cur % 256 : Nat) : Int) by simp, e1, show cur % 256 % 128 = cur % 128 by omega, ← u8s_snoc _ _ (by omega)] at hown'
      go_roundw
      case rel => exact ⟨cur / 128, _, by simp, by omega, hown', Lib.hid (by rw [List.append_assoc, List.singleton_append, ← Leb.putU_big (by omega)]; exact HP.out)⟩
      case measure => simp [intOf]; omega
    · go_wp2_with (at_builtin; refine wpList_push rfl _ _ _ rfl _ 1 Tryd.underlying22 elem_u8 (by decide) _ _ _ _ _ _ 1 rfl hown rfl rfl (by simp; omega) ?_; intro v' w' hown')
      rw [← u8s_snoc _ _ (by omega), ← Leb.putU_small (by omega), HP.out] at hown'
      go_ret
      exact ⟨_, rfl, hown'⟩


end Go.Proofs.YthkdpcoacjgomaaDoor

/- The head of the statements of layer 1 (grommetlaw01.up) returns true; nothing that was there changes. -/
namespace Go.Proofs.YthkdpcoacjgomaaDoor
open Go.RowKit

theorem below_drewN {B : Nat} {a w : World} (h : Below B a w) (n : Nat) : Below B a (w.drewN n) := ⟨h.os, h.tape, h.output, h.size, h.block⟩

/-- leb.U in the words that a caller has: any length and place, as numbers. -/
theorem U_int {A : Option Addr} {n c : Nat} {bs : List UInt8} {at_ bits : Int} {w : World} {B : Nat} (r : Option (Nat × Nat)) (hs : Sl w B A (u8s bs)) (hB : B ≤ w.heap.size) (hn : bs.length = n) (hc : n ≤ c) (hm : c ≤ maxLen)
   (h0 : 1 ≤ bits) (h1 : bits ≤ 64) (h2 : 0 ≤ at_) (h3 : at_ ≤ n) (hr : Leb.uOf bs at_.toNat bits.toNat = r) :
    Calls Tryd.prog 28 #[.slice A n c, .int .i64 at_, .int .i64 bits] w fun e w' => e = .returned (luV r) ∧ ∃ nq, w' = w.drewN nq := by
  subst hn hr
  obtain ⟨k, rfl⟩ := Int.eq_ofNat_of_zero_le h2
  exact U_any A c bs k bits w (hs.more hB) hc hm h0 h1 (by omega)

/-- a literal slice of bytes. -/
theorem Sl.lit (w : World) (bs : List UInt8) (e : TypeId) : Sl (w.alloc (.cells (u8s bs).toArray e)) (w.alloc (.cells (u8s bs).toArray e)).heap.size (some ⟨w.heap.size, 0, none⟩) (u8s bs) := fun _ =>
  ⟨w.heap.size, 0, rfl, by simp, fun i hi => by
    have := cell_of_row (w.alloc (.cells (u8s bs).toArray e)) w.heap.size i _ e (0, 0) (heap_alloc_new w _)
    rw [Nat.zero_add, this]; simp⟩

theorem Leb.up1 : Leb.uOf [229, 142, 38] 0 32 = some (624485, 3) := by decide
theorem Leb.up2 : Leb.sOf [127] 0 32 = some (-1, 1) := by decide
theorem Leb.up3 : Leb.putS 64 = [192, 0] := by
  rw [Leb.putS_big (by decide), Leb.putS_small (by decide)]; decide


end Go.Proofs.YthkdpcoacjgomaaDoor

/- The walk of LebStays: it returns true, whatever the input; nothing that was there changes. -/
namespace Go.Proofs.YthkdpcoacjgomaaDoor
open Go.RowKit

theorem u8s_one (bs : List UInt8) : ∀ u ∈ u8s bs, u.oneCell' = true := by
  intro u hu
  simp only [u8s, List.mem_map] at hu
  obtain ⟨b, _, rfl⟩ := hu
  rfl

/-- leb.U at whatever place: it returns, and leaves memory alone. -/
theorem U_tot {A : Option Addr} {n c : Nat} {bs : List UInt8} {w : World} {B : Nat} (at_ bits : Int) (hs : Sl w B A (u8s bs)) (hB : B ≤ w.heap.size) (hn : bs.length = n) (hc : n ≤ c) (hm : c ≤ maxLen) :
    Calls Tryd.prog 28 #[.slice A n c, .int .i64 at_, .int .i64 bits] w fun e w' => (∃ r, e = .returned r) ∧ ∃ nq, w' = w.drewN nq := by
  by_cases h : bits < 1 ∨ 64 < bits ∨ at_ < 0 ∨ n < at_
  · exact (U_bad A n c at_ bits w h).mono fun e w' ⟨h1, h2⟩ => ⟨⟨_, h1⟩, 0, h2.symm⟩
  · exact (U_int _ hs hB hn hc hm (by omega) (by omega) (by omega) (by omega) rfl).mono fun e w' ⟨h1, h2⟩ => ⟨⟨_, h1⟩, h2⟩

theorem Leb.putU_head (v : Nat) : ((Leb.putU v)[0]'(Leb.putU_pos v)).toNat % 128 = v % 128 := by
  have h : ∀ l : List UInt8, ∀ h : 0 < l.length, Leb.joinOf l % 128 = (l[0]).toNat % 128 := fun l h => by
    cases l with
    | nil => simp at h
    | cons b r => rw [Leb.joinOf, List.getElem_cons_zero]; omega
  rw [← h, Leb.putU_join]

theorem Own.cellk {B : Nat} {w0 w : World} {e : TypeId} {xs : List Value} {g c n : Nat} (h : Own B w0 w e (.slice (some ⟨g, 0, none⟩) n c) xs) (hn : xs.length = n) (j : Nat) (hj : j < n) :
    (∃ u, w.cell? ⟨g, j, none⟩ = some u) ∧ w.frozen? ⟨g, j, none⟩ = false := by
  subst hn
  have := h.row.cellAt j (by omega)
  rw [List.getElem?_eq_getElem hj] at this
  exact ⟨⟨_, this⟩, h.row.frozenAt j⟩
theorem Own.storek {B : Nat} {w0 w : World} {e : TypeId} {xs : List Value} {g c n : Nat} (h : Own B w0 w e (.slice (some ⟨g, 0, none⟩) n c) xs) (hn : xs.length = n) (hg : B ≤ g) (j : Nat) (u : Value) :
    Own B w0 (w.setCell ⟨g, j, none⟩ u) e (.slice (some ⟨g, 0, none⟩) n c) (xs.set j u) ∧ (xs.set j u).length = n := by
  subst hn
  exact ⟨h.store hg j u, by simp⟩


end Go.Proofs.YthkdpcoacjgomaaDoor
