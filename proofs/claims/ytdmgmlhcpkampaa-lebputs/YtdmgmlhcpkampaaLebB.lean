/- Contracts of leb.U and leb.S: what each returns, for every input in its range. -/
import Derived.Test.YtdmgmlhcpkampaaLebA
namespace Go.Proofs.Ytdmgmlhcpkampaa
open Go.RowKit

def uV : Option (Nat × Nat) → Value
  | some (x, n) => .tuple #[.int .u64 (x : Int), .int .i64 (n : Int), .nilIface]
  | none => .tuple #[.int .u64 0, .int .i64 0, .iface 31 (.int .i64 2)]

theorem U_bad (A : Option Addr) (n c : Nat) (at_ bits : Int) (w : World)
   (h : bits < 1 ∨ 64 < bits ∨ at_ < 0 ∨ n < at_) :
    Calls Try.prog 10 #[.slice A n c, .int .i64 at_, .int .i64 bits] w fun e w' => e = .returned (.tuple #[.int .u64 0, .int .i64 0, .iface 31 (.int .i64 1)]) ∧ w = w' := by
  have H := Lib.hid h
  clear h
  go_enter Try.func10, Try.ntmps10
  go_wp2_with (go_at_call 17; refine (length_bad _ _ _ _ _ _ H.out).mono ?_; rintro e w' ⟨rfl, rfl⟩)
  go_ret3
  exact ⟨rfl, rfl⟩

set_option maxHeartbeats 1000000 in
set_option maxRecDepth 100000 in
theorem U_any (A : Option Addr) (c : Nat) (bs : List UInt8) (k : Nat) (bits : Int) (w : World) (hs : Sl w w.heap.size A (u8s bs)) (hc : bs.length ≤ c) (hm : c ≤ maxLen)
   (h0 : 1 ≤ bits) (h1 : bits ≤ 64) (h3 : k ≤ bs.length) :
    Calls Try.prog 10 #[.slice A bs.length c, .int .i64 k, .int .i64 bits] w fun e w' => e = .returned (uV (Leb.uOf bs k bits.toNat)) ∧ ∃ nq, w' = w.drewN nq := by
  have hm' := hm
  unfold maxLen at hm'
  have hlen := length_any A c bs k bits w hs hc hm h0 h1 h3
  cases hl : Leb.lenOf (bs.drop k) ((bits.toNat + 6) / 7) with
  | none =>
    have hfin : Leb.uOf bs k bits.toNat = none := by simp [Leb.uOf, hl]
    have Hfin := Lib.hid hfin
    rw [hl] at hlen
    have HL := Lib.hid hlen
    clear hfin hl hlen
    go_enter Try.func10, Try.ntmps10
    go_wp2_with (go_at_call 17; refine HL.out.mono ?_; rintro e w' ⟨rfl, rfl⟩; unfold lenV)
    go_ret3
    refine ⟨?_, 0, rfl⟩
    rw [Hfin.out]
    rfl
  | some j =>
    obtain ⟨j1, j2, j3, j4⟩ := Leb.lenOf_of_some _ _ _ hl
    rw [hl] at hlen
    have HL := Lib.hid hlen
    clear hlen
    simp only [List.length_drop] at j3
    obtain ⟨b, off, rfl, hb, hcell⟩ := hs (by intro h; have := congrArg List.length h; simp at this; simp [this] at j3)
    have hcj := (hcell (k + j - 1) (by simp; omega)).trans (u8s_get bs (k + j - 1) (by omega))
    have hget : bs[k + j - 1]?.getD 0 = bs[k + j - 1]'(by omega) := by simp [show k + j - 1 < bs.length by omega]
    obtain ⟨m, hmm⟩ : ∃ m : Nat, (bits + 6) / 7 = m := ⟨((bits + 6) / 7).toNat, by omega⟩
    obtain ⟨q, hq⟩ : ∃ q : Nat, bits - 7 * ((bits + 6) / 7 - 1) = q := ⟨(bits - 7 * ((bits + 6) / 7 - 1)).toNat, by omega⟩
    have em : (bits.toNat + 6) / 7 = m := by omega
    have eq : bits.toNat - 7 * (m - 1) = q := by omega
    have hb8 := (bs[k + j - 1]'(by omega)).toNat_lt
    have hfin : Leb.uOf bs k bits.toNat = if j = m ∧ (bs[k + j - 1]'(by omega)).toNat / 2 ^ q ≠ 0 then none
        else some (Leb.joinOf ((bs.drop k).take j) % 18446744073709551616, k + j) := by
      unfold Leb.uOf
      rw [hl]
      simp only [hget, em, eq]
    obtain ⟨x, hx⟩ : ∃ x, x = (bs[k + j - 1]'(by omega)).toNat := ⟨_, rfl⟩
    rw [← hx] at hfin hcj hb8
    have hsl : Sl w w.heap.size (some ⟨b, off + k, none⟩) (u8s ((bs.drop k).take j)) := by
      have := (hs.drop (k := k) (cap := c) (by simpa using hc)).take j
      rw [if_neg (by omega), ← u8s_drop, ← u8s_take] at this
      by_cases e : k = 0
      · subst e; simpa [Addr.add] using this
      · simpa [Addr.add, e] using this
    have hlj : ((bs.drop k).take j).length = j := by simp; omega
    have hjoin := fun nq => join_any b (off + k) (c - k) ((bs.drop k).take j) (w.drewN nq) (hsl.drewN nq) (by omega)
    rw [hlj] at hjoin
    clear hsl
    have hm10 : m ≤ 10 := by omega
    have hq1 : 1 ≤ q := by omega
    have hq7 : q ≤ 7 := by omega
    rw [em] at j2
    have Hm := Lib.hid hmm
    have Hq := Lib.hid hq
    have HJ := Lib.hid hjoin
    clear hmm hq em eq hx hget hl j4 hlj hjoin hcell hs
    have hck : ¬ c = k := by omega
    have f1 : IntKind.i64.wrap ((k : Int) + j - 1) = (k : Int) + j - 1 := IntWalk.i64_in _ (by omega)
    have f2 : (0 : Int) ≤ (k : Int) + j - 1 := by omega
    have f3 : (k : Int) + j - 1 < bs.length := by omega
    have f4 : ((k : Int) + j - 1).toNat = k + j - 1 := by omega
    have f5 : ((k : Int) + j).toNat = k + j := by omega
    have F1 := Lib.hid f1
    have F4 := Lib.hid f4
    clear f1 f4
    by_cases hjm : j = m
    · subst hjm
      have ez : ((x : Int) / 2 ^ q) = ((x / 2 ^ q : Nat) : Int) := by simp
      by_cases hz : x / 2 ^ q = 0
      · have t1 : ((x : Int) / 2 ^ q != 0) = false := by rw [ez, hz]; rfl
        rw [if_neg (by simp [hz])] at hfin
        have Hfin := Lib.hid hfin
        clear hfin hz ez
        go_enter Try.func10, Try.ntmps10
        go_wp2_with (go_at_call 17; refine HL.out.mono ?_; rintro e w' ⟨rfl, rfl⟩; unfold lenV)
        have f1 := F1.out
        have f4 := F4.out
        go_quiet (first | (go_at_call 18; exact quiet_same (most_nat _ j _ (by omega) (by omega) Hm.out)) | (go_at_call 19; exact quiet_same (kept_nat _ q _ (by omega) (by omega) Hq.out)))
        clear f1 f4
        go_wp2_with (go_at_call 20; refine (HJ.out _).mono ?_; rintro e w' ⟨rfl, rfl⟩)
        go_ret3
        exact ⟨by rw [Hfin.out]; rfl, _, rfl⟩
      · have t1 : ((x : Int) / 2 ^ q != 0) = true := by rw [ez, bne_iff_ne]; omega
        rw [if_pos (by simp [hz])] at hfin
        have Hfin := Lib.hid hfin
        clear hfin hz ez
        go_enter Try.func10, Try.ntmps10
        go_wp2_with (go_at_call 17; refine HL.out.mono ?_; rintro e w' ⟨rfl, rfl⟩; unfold lenV)
        have f1 := F1.out
        have f4 := F4.out
        go_quiet (first | (go_at_call 18; exact quiet_same (most_nat _ j _ (by omega) (by omega) Hm.out)) | (go_at_call 19; exact quiet_same (kept_nat _ q _ (by omega) (by omega) Hq.out)))
        clear f1 f4
        go_wp2
        go_ret3
        exact ⟨by rw [Hfin.out]; rfl, _, rfl⟩
    · have t1 : ((j : Int) == (m : Int)) = false := by rw [beq_eq_false_iff_ne]; omega
      rw [if_neg (by simp [hjm])] at hfin
      have Hfin := Lib.hid hfin
      clear hfin
      go_enter Try.func10, Try.ntmps10
      go_wp2_with (go_at_call 17; refine HL.out.mono ?_; rintro e w' ⟨rfl, rfl⟩; unfold lenV)
      go_quiet (first | (go_at_call 18; exact quiet_same (most_nat _ m _ (by omega) (by omega) Hm.out)))
      go_wp2_with (go_at_call 20; refine (HJ.out _).mono ?_; rintro e w' ⟨rfl, rfl⟩)
      go_ret3
      exact ⟨by rw [Hfin.out]; rfl, _, rfl⟩

def sV : Option (Int × Nat) → Value
  | some (x, n) => .tuple #[.int .i64 x, .int .i64 (n : Int), .nilIface]
  | none => .tuple #[.int .i64 0, .int .i64 0, .iface 31 (.int .i64 2)]

theorem S_bad (A : Option Addr) (n c : Nat) (at_ bits : Int) (w : World)
   (h : bits < 1 ∨ 64 < bits ∨ at_ < 0 ∨ n < at_) :
    Calls Try.prog 11 #[.slice A n c, .int .i64 at_, .int .i64 bits] w fun e w' => e = .returned (.tuple #[.int .i64 0, .int .i64 0, .iface 31 (.int .i64 1)]) ∧ w = w' := by
  have H := Lib.hid h
  clear h
  go_enter Try.func11, Try.ntmps11
  go_wp2_with (go_at_call 17; refine (length_bad _ _ _ _ _ _ H.out).mono ?_; rintro e w' ⟨rfl, rfl⟩)
  go_ret3
  exact ⟨rfl, rfl⟩

set_option maxHeartbeats 1000000 in
set_option maxRecDepth 100000 in
theorem S_any (A : Option Addr) (c : Nat) (bs : List UInt8) (k : Nat) (bits : Int) (w : World) (hs : Sl w w.heap.size A (u8s bs)) (hc : bs.length ≤ c) (hm : c ≤ maxLen)
   (h0 : 1 ≤ bits) (h1 : bits ≤ 64) (h3 : k ≤ bs.length) :
    Calls Try.prog 11 #[.slice A bs.length c, .int .i64 k, .int .i64 bits] w fun e w' => e = .returned (sV (Leb.sOf bs k bits.toNat)) ∧ w = w' := by
  have hm' := hm
  unfold maxLen at hm'
  have hlen := length_any A c bs k bits w hs hc hm h0 h1 h3
  cases hl : Leb.lenOf (bs.drop k) ((bits.toNat + 6) / 7) with
  | none =>
    have hfin : Leb.sOf bs k bits.toNat = none := by simp [Leb.sOf, hl]
    have Hfin := Lib.hid hfin
    rw [hl] at hlen
    have HL := Lib.hid hlen
    clear hfin hl hlen
    go_enter Try.func11, Try.ntmps11
    go_wp2_with (go_at_call 17; refine HL.out.mono ?_; rintro e w' ⟨rfl, rfl⟩; unfold lenV)
    go_ret3
    refine ⟨?_, rfl⟩
    rw [Hfin.out]
    rfl
  | some j =>
    obtain ⟨j1, j2, j3, j4⟩ := Leb.lenOf_of_some _ _ _ hl
    rw [hl] at hlen
    have HL := Lib.hid hlen
    clear hlen
    have j3' := j3
    simp only [List.length_drop] at j3
    obtain ⟨b, off, rfl, hb, hcell⟩ := hs (by intro h; have := congrArg List.length h; simp at this; simp [this] at j3)
    have hcj := (hcell (k + j - 1) (by simp; omega)).trans (u8s_get bs (k + j - 1) (by omega))
    have hget : bs[k + j - 1]?.getD 0 = bs[k + j - 1]'(by omega) := by simp [show k + j - 1 < bs.length by omega]
    have hdj : (bs.drop k)[j - 1] = bs[k + j - 1]'(by omega) := by simp [show k + (j - 1) = k + j - 1 by omega]
    obtain ⟨m, hmm⟩ : ∃ m : Nat, (bits + 6) / 7 = m := ⟨((bits + 6) / 7).toNat, by omega⟩
    obtain ⟨q, hq⟩ : ∃ q : Nat, bits - 7 * ((bits + 6) / 7 - 1) = q := ⟨(bits - 7 * ((bits + 6) / 7 - 1)).toNat, by omega⟩
    have em : (bits.toNat + 6) / 7 = m := by omega
    have eq : bits.toNat - 7 * (m - 1) = q := by omega
    have hlast := Leb.joinOf_last (bs.drop k) j j1 (by omega)
    rw [hdj] at hlast j4
    have hev := fun wx => even_any (bs[k + j - 1]'(by omega)) (q : Int) wx (by omega) (by omega)
    have hfin : Leb.sOf bs k bits.toNat = if j = m ∧ Leb.evenB (bs[k + j - 1]'(by omega)).toNat q = false then none
        else some ((Leb.joinOf ((bs.drop k).take j) : Int) - (if 64 ≤ (bs[k + j - 1]'(by omega)).toNat then 2 ^ (7 * j) else 0), k + j) := by
      unfold Leb.sOf
      rw [hl]
      simp only [hget, em, eq]
    obtain ⟨x, hx⟩ : ∃ x, x = (bs[k + j - 1]'(by omega)).toNat := ⟨_, rfl⟩
    rw [← hx] at hfin hcj hlast j4
    rw [show ((bs[k + j - 1]'(by omega)).toNat : Int) = (x : Int) by rw [hx], ← hx, Int.toNat_natCast] at hev
    have hsl : Sl w w.heap.size (some ⟨b, off + k, none⟩) (u8s ((bs.drop k).take j)) := by
      have := (hs.drop (k := k) (cap := c) (by simpa using hc)).take j
      rw [if_neg (by omega), ← u8s_drop, ← u8s_take] at this
      by_cases e : k = 0
      · subst e; simpa [Addr.add] using this
      · simpa [Addr.add, e] using this
    have hlj : ((bs.drop k).take j).length = j := by simp; omega
    have hjoin := join_any b (off + k) (c - k) ((bs.drop k).take j) w hsl (by omega)
    have hJlt := Leb.joinOf_lt ((bs.drop k).take j)
    rw [hlj] at hjoin hJlt
    rw [em] at j2
    have hm10 : m ≤ 10 := by omega
    have hq1 : 1 ≤ q := by omega
    have hq7 : q ≤ 7 := by omega
    have hq10 : m = 10 → q = 1 := by omega
    have Hm := Lib.hid hmm
    have Hq := Lib.hid hq
    have HE := Lib.hid hev
    have hck : ¬ c = k := by omega
    obtain ⟨J, hJ⟩ : ∃ J, J = Leb.joinOf ((bs.drop k).take j) := ⟨_, rfl⟩
    rw [← hJ] at hfin hjoin hJlt hlast
    have HJ := Lib.hid hjoin
    clear hmm hq em eq hx hget hl hlj hjoin hcell hs hsl hev hdj hJ j3'
    have g1 : ¬ (x % 128 ≠ x) := by omega
    have g2 : x % 128 = x := by omega
    rw [g2] at hlast
    clear g1 g2
    have hz := Leb.and64 x j4
    have hneg : 64 ≤ x → (j = m → Leb.evenB x q = true) → j = 10 → 127 * 2 ^ 63 ≤ J := fun h6 hev h10 => by
      have hm10' : m = 10 := by omega
      have hx : x = 127 := by
        have := hev (by omega)
        rw [hq10 hm10'] at this
        simp [Leb.evenB] at this
        omega
      subst h10 hx
      omega
    have hpos : x < 64 → (j = m → Leb.evenB x q = true) → J < 2 ^ 63 := fun h6 hev => by
      rcases Nat.lt_or_ge j 10 with h10 | h10
      · exact Nat.lt_of_lt_of_le hJlt (Nat.pow_le_pow_right (by omega) (by omega))
      · have hx : x = 0 := by
          have := hev (by omega)
          rw [hq10 (by omega)] at this
          simp [Leb.evenB] at this
          omega
        subst hx
        have : j = 10 := by omega
        subst this
        omega
    have HN := Lib.hid hneg
    have HP := Lib.hid hpos
    have HA := Lib.hid hlast
    clear hneg hpos hlast hq10
    have f2 : (0 : Int) ≤ (k : Int) + j - 1 := by omega
    have f3 : (k : Int) + j - 1 < bs.length := by omega
    have F4 := Lib.hid (show ((k : Int) + j - 1).toNat = k + j - 1 by omega)
    have hx8 : x < 256 := by omega
    have HZ := Lib.hid hz
    clear hz
    by_cases hbad : j = m ∧ Leb.evenB x q = false
    · rw [if_pos hbad] at hfin
      have Hfin := Lib.hid hfin
      obtain ⟨rfl, hev⟩ := hbad
      have he := HE.out
      rw [hev] at he
      have HE2 := Lib.hid he
      clear he hev hfin HE
      go_enter Try.func11, Try.ntmps11
      have f4 := F4.out
      go_wp2_with (first | (go_at_call 17; refine HL.out.mono ?_; rintro e w' ⟨rfl, rfl⟩; unfold lenV) | (go_at_call 18; refine (most_nat _ j _ (by omega) (by omega) Hm.out).mono ?_; rintro e w' ⟨rfl, rfl⟩) | (go_at_call 19; refine (kept_nat _ q _ (by omega) (by omega) Hq.out).mono ?_; rintro e w' ⟨rfl, rfl⟩) | (go_at_call 21; refine (HE2.out _).mono ?_; rintro e w' ⟨rfl, rfl⟩))
      go_ret3
      exact ⟨by rw [Hfin.out]; rfl, rfl⟩
    · rw [if_neg hbad] at hfin
      have hev : j = m → Leb.evenB x q = true := fun e => by
        cases h : Leb.evenB x q
        · exact absurd ⟨e, h⟩ hbad
        · rfl
      clear hbad
      have hsg : ∃ (u : Int) (v : Nat), Hid (Leb.sOf bs k bits.toNat = some (u, k + j)) ∧ Hid (Go.bits .and .u8 (x : Int) 64 = v) ∧
          (v = 0 ∧ Hid (u = wrap64 ((J : Int) % 18446744073709551616)) ∨ v = 64 ∧ Hid (u = wrap64 (Go.bits .or .u64 ((J : Int) % 18446744073709551616) (IntKind.u64.wrap (18446744073709551615 * 2 ^ (min (j * 7) 64)))))) := by
        by_cases h6 : 64 ≤ x
        · have hv := Leb.sign_join J j hJlt j1 (by omega) (HN.out h6 hev)
          refine ⟨_, 64, Lib.hid ?_, Lib.hid ?_, .inr ⟨rfl, Lib.hid rfl⟩⟩
          · rw [hfin, if_pos h6, hv]
          · rw [HZ.out, if_pos h6]; rfl
        · refine ⟨_, 0, Lib.hid ?_, Lib.hid ?_, .inl ⟨rfl, Lib.hid rfl⟩⟩
          · rw [hfin, if_neg h6, Leb.unsign_join J (HP.out (by omega) hev)]; simp
          · rw [HZ.out, if_neg h6]; rfl
      obtain ⟨u, v, Hfin, HV, hcase⟩ := hsg
      have HE2 : j = m → Hid (∀ wx, Calls Try.prog 21 #[.int .u8 (x : Int), .int .i64 (q : Int)] wx fun e w' => e = .returned (.bool true) ∧ wx = w') := fun e => by
        have he := HE.out
        rw [hev e] at he
        exact Lib.hid he
      clear hfin hev HE HN HP HZ
      have f7 : (0 : Int) ≤ (j : Int) * 7 := by omega
      by_cases hjm : j = m
      · have HE3 := HE2 hjm
        clear HE2
        subst hjm
        rcases hcase with ⟨rfl, HU⟩ | ⟨rfl, HU⟩
        all_goals
          go_enter Try.func11, Try.ntmps11
          have f4 := F4.out
          have f5 := HV.out
          go_wp2_with (first | (go_at_call 17; refine HL.out.mono ?_; rintro e w' ⟨rfl, rfl⟩; unfold lenV) | (go_at_call 18; refine (most_nat _ j _ (by omega) (by omega) Hm.out).mono ?_; rintro e w' ⟨rfl, rfl⟩) | (go_at_call 19; refine (kept_nat _ q _ (by omega) (by omega) Hq.out).mono ?_; rintro e w' ⟨rfl, rfl⟩) | (go_at_call 21; refine (HE3.out _).mono ?_; rintro e w' ⟨rfl, rfl⟩) | (go_at_call 20; refine HJ.out.mono ?_; rintro e w' ⟨rfl, rfl⟩))
          go_ret3
          exact ⟨by rw [Hfin.out, HU.out]; rfl, rfl⟩
      · have t1 : ((j : Int) == (m : Int)) = false := by rw [beq_eq_false_iff_ne]; omega
        clear HE2
        rcases hcase with ⟨rfl, HU⟩ | ⟨rfl, HU⟩
        all_goals
          go_enter Try.func11, Try.ntmps11
          have f4 := F4.out
          have f5 := HV.out
          go_wp2_with (first | (go_at_call 17; refine HL.out.mono ?_; rintro e w' ⟨rfl, rfl⟩; unfold lenV) | (go_at_call 18; refine (most_nat _ m _ (by omega) (by omega) Hm.out).mono ?_; rintro e w' ⟨rfl, rfl⟩) | (go_at_call 20; refine HJ.out.mono ?_; rintro e w' ⟨rfl, rfl⟩))
          go_ret3
          refine ⟨?_, rfl⟩
          rw [Hfin.out, HU.out]
          try rw [show min (j * 7) 64 = j * 7 by omega]
          rfl

end Go.Proofs.Ytdmgmlhcpkampaa
