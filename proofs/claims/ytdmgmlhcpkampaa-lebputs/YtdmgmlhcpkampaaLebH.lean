/- The walk of LebBack: it returns true, whatever the input; nothing that was there changes. -/
import Derived.Test.YtdmgmlhcpkampaaLebG
import Derived.Test.YtdmgmlhcpkampaaLebMath4
namespace Go.Proofs.Ytdmgmlhcpkampaa
open Go.RowKit

theorem Leb.sOf_range (bs : List UInt8) (k bits n : Nat) (s : Int) (h1 : bits ≤ 64) (h : Leb.sOf bs k bits = some (s, n)) : -9223372036854775808 ≤ s ∧ s < 9223372036854775808 := by
  unfold Leb.sOf at h
  split at h
  · cases h
  · rename_i j hj
    obtain ⟨he, hl⟩ := Leb.enc_of_len _ _ _ hj
    obtain ⟨j1, j2, j3, j4⟩ := Leb.lenOf_of_some _ _ _ hj
    split at h
    · cases h
    · rename_i hev
      injection h with h
      injection h with e1 e2
      subst e1 e2
      have hb := Leb.sval_bounds he
      have hlast := Leb.joinOf_last (bs.drop k) j j1 (by simp only [List.length_drop] at j3 ⊢; omega)
      simp only [List.length_drop] at j3
      have e3 : (bs.drop k)[j - 1]'(by simp; omega) = bs[k + j - 1]'(by omega) := by simp [show k + (j - 1) = k + j - 1 by omega]
      have hget : bs[k + j - 1]?.getD 0 = bs[k + j - 1]'(by omega) := by simp [show k + j - 1 < bs.length by omega]
      unfold Leb.sval at hb
      rw [hl] at hb
      have e : ((bs.drop k).take j)[j - 1]? = bs[k + j - 1]? := by
        rw [List.getElem?_take, if_pos (by omega), List.getElem?_drop]; congr 1; omega
      rw [e] at hb
      rw [e3] at hlast j4
      rw [hget] at hb hev ⊢
      obtain ⟨x, hx⟩ : ∃ x, x = (bs[k + j - 1]'(by omega)).toNat := ⟨_, rfl⟩
      rw [← hx] at hb hev hlast j4 ⊢
      rcases Nat.lt_or_ge j 10 with h10 | h10
      · have hp : (2 : Int) ^ (7 * j - 1) ≤ 2 ^ 62 := by
          have : (2 : Nat) ^ (7 * j - 1) ≤ 2 ^ 62 := Nat.pow_le_pow_right (by omega) (by omega)
          exact_mod_cast this
        have h62 : (2 : Int) ^ 62 = 4611686018427387904 := by decide
        omega
      · have hj10 : j = 10 := by omega
        have hm : (bits + 6) / 7 = 10 := by omega
        have hbits : bits = 64 := by omega
        subst hj10 hbits
        have hE : Leb.evenB x 1 = true := by
          cases hc : Leb.evenB x 1
          · exact absurd ⟨rfl, hc⟩ hev
          · rfl
        simp only [Leb.evenB, Nat.sub_self, Nat.pow_zero, Nat.div_one, Bool.or_eq_true, beq_iff_eq] at hE
        have h3 : (2 : Int) ^ (7 * 10) = 1180591620717411303424 := by decide
        have h4 : (2 : Nat) ^ (7 * (10 - 1)) = 9223372036854775808 := by decide
        rw [h3]
        rw [h4] at hlast
        split <;> omega

/-- leb.U at whatever place: an error, or a number whose bytes are no more than those read. -/
theorem U_res {A : Option Addr} {n c : Nat} {bs : List UInt8} {w : World} {B : Nat} (at_ bits : Int) (hs : Sl w B A (u8s bs)) (hB : B ≤ w.heap.size) (hn : bs.length = n) (hc : n ≤ c) (hm : c ≤ maxLen) :
    Calls Try.prog 10 #[.slice A n c, .int .i64 at_, .int .i64 bits] w fun e w' => ((∃ k : Int, e = .returned (.tuple #[.int .u64 0, .int .i64 0, .iface 31 (.int .i64 k)])) ∨
      ∃ x j : Nat, e = .returned (.tuple #[.int .u64 x, .int .i64 j, .nilIface]) ∧ x < 18446744073709551616 ∧ 0 ≤ at_ ∧ j ≤ n ∧ ((Leb.putU x).length : Int) ≤ j - at_) ∧ ∃ nq, w' = w.drewN nq := by
  by_cases h : bits < 1 ∨ 64 < bits ∨ at_ < 0 ∨ n < at_
  · exact (U_bad A n c at_ bits w h).mono fun e w' ⟨h1, h2⟩ => ⟨.inl ⟨_, h1⟩, 0, h2.symm⟩
  · refine (U_int _ hs hB hn hc hm (by omega) (by omega) (by omega) (by omega) rfl).mono fun e w' ⟨h1, h2⟩ => ⟨?_, h2⟩
    cases hr : Leb.uOf bs at_.toNat bits.toNat with
    | none => rw [hr] at h1; exact .inl ⟨2, h1⟩
    | some r =>
      obtain ⟨x, j⟩ := r
      rw [hr] at h1
      have hsh := Leb.uOf_short _ _ _ _ _ (by omega) hr
      have hle := Leb.uOf_le _ _ _ _ _ hr
      exact .inr ⟨x, j, h1, Leb.uOf_lt _ _ _ _ _ hr, by omega, by omega, by omega⟩
theorem S_res {A : Option Addr} {n c : Nat} {bs : List UInt8} {w : World} {B : Nat} (at_ bits : Int) (hs : Sl w B A (u8s bs)) (hB : B ≤ w.heap.size) (hn : bs.length = n) (hc : n ≤ c) (hm : c ≤ maxLen) :
    Calls Try.prog 11 #[.slice A n c, .int .i64 at_, .int .i64 bits] w fun e w' => ((∃ k : Int, e = .returned (.tuple #[.int .i64 0, .int .i64 0, .iface 31 (.int .i64 k)])) ∨
      ∃ (x : Int) (j : Nat), e = .returned (.tuple #[.int .i64 x, .int .i64 j, .nilIface]) ∧ -9223372036854775808 ≤ x ∧ x < 9223372036854775808 ∧ 0 ≤ at_ ∧ j ≤ n ∧ ((Leb.putS x).length : Int) ≤ j - at_) ∧ w = w' := by
  by_cases h : bits < 1 ∨ 64 < bits ∨ at_ < 0 ∨ n < at_
  · exact (S_bad A n c at_ bits w h).mono fun e w' ⟨h1, h2⟩ => ⟨.inl ⟨_, h1⟩, h2⟩
  · refine (S_int _ hs hB hn hc hm (by omega) (by omega) (by omega) (by omega) rfl).mono fun e w' ⟨h1, h2⟩ => ⟨?_, h2⟩
    cases hr : Leb.sOf bs at_.toNat bits.toNat with
    | none => rw [hr] at h1; exact .inl ⟨2, h1⟩
    | some r =>
      obtain ⟨x, j⟩ := r
      rw [hr] at h1
      have hsh := Leb.sOf_short _ _ _ _ _ hr
      have hrg := Leb.sOf_range _ _ _ _ _ (by omega) hr
      have hle := Leb.sOf_le _ _ _ _ _ hr
      exact .inr ⟨x, j, h1, hrg.1, hrg.2, by omega, by omega, by omega⟩

theorem wrap64_back (v : Nat) (h : v < 18446744073709551616) : -9223372036854775808 ≤ wrap64 v ∧ wrap64 v < 9223372036854775808 ∧ wrap64 v % 18446744073709551616 = v := by
  unfold wrap64; omega

set_option maxHeartbeats 2000000 in
set_option maxRecDepth 100000 in
theorem walk_LebBack (a : Int) (A1 : Option Addr) (c1 : Nat) (mo : List UInt8) (A2 : Option Addr) (c2 : Nat) (bs : List UInt8) (at_ bits : Int) (w : World) (ha : (Lit.int .u64 a).wf = true)
    (hs1 : Sl w w.heap.size A1 (u8s mo)) (hc1 : mo.length ≤ c1) (hm1 : c1 ≤ maxLen) (hs2 : Sl w w.heap.size A2 (u8s bs)) (hc2 : bs.length ≤ c2) (hm2 : c2 ≤ maxLen)
    (hat : (Lit.int .i64 at_).wf = true) (hbi : (Lit.int .i64 bits).wf = true) :
    Calls Try.prog 5 #[.int .u64 a, .slice A1 mo.length c1, .slice A2 bs.length c2, .int .i64 at_, .int .i64 bits] w fun e w' => e = .returned (.bool true) ∧ Below w.heap.size w w' := by
  obtain ⟨h1, h2⟩ := bounds_u64 ha
  obtain ⟨v, rfl⟩ := Int.eq_ofNat_of_zero_le h1
  have hbat := bounds_i64 hat
  clear ha h1 hat hbi
  have hm1' := hm1
  have hm2' := hm2
  unfold maxLen at hm1' hm2'
  by_cases hbig1 : 1000 < mo.length
  · go_enter Try.func5, Try.ntmps5
    go_wp2_with fail
    with_reducible refine (up_any _).mono ?_
    rintro e w1 ⟨rfl, hb1⟩
    go_wp2
    go_ret
    exact ⟨rfl, hb1⟩
  by_cases hbig2 : 1000 < bs.length
  · go_enter Try.func5, Try.ntmps5
    go_wp2_with fail
    with_reducible refine (up_any _).mono ?_
    rintro e w1 ⟨rfl, hb1⟩
    go_wp2
    go_ret
    exact ⟨rfl, hb1⟩
  have hlen := Leb.putU_len10 (v := v) (by omega)
  have hr1 := Leb.put_read v 64 mo (by decide) (by decide)
  rw [if_pos (by omega)] at hr1
  obtain ⟨z1, z2, z3⟩ := wrap64_back v (by omega)
  obtain ⟨z, hz⟩ : ∃ z, z = wrap64 v := ⟨_, rfl⟩
  rw [← hz] at z1 z2 z3
  have hlen2 := Leb.putS_len10 z1 z2
  have hr2 := Leb.putS_read z mo z1 z2
  have HR1 := Lib.hid hr1
  have HR2 := Lib.hid hr2
  have HZ := Lib.hid hz
  have Z3 := Lib.hid z3
  clear hr1 hr2 hz z3
  have t1 : decide (1000 < mo.length) = false := by simp; omega
  have t2 : decide (1000 < bs.length) = false := by simp; omega
  go_enter Try.func5, Try.ntmps5
  go_wp2_with fail
  with_reducible refine (up_any _).mono ?_
  rintro e w1 ⟨rfl, hb1⟩
  go_wp2_with fail
  with_reducible refine (PutU_any _ _ (by omega)).mono ?_
  rintro e w2 ⟨s2, rfl, hown2⟩
  obtain ⟨B2, d2, rfl, hd21, hd22, hsl2⟩ := hown2.bytes
  have hb2 := hb1.trans (hown2.below.mono hb1.size)
  clear hown2
  go_wp2_with fail
  rw [← HZ.out]
  with_reducible refine (PutS_any _ _ z1 z2).mono ?_
  rintro e w3 ⟨s3, rfl, hown3⟩
  obtain ⟨B3, d3, rfl, hd31, hd32, hsl3⟩ := hown3.bytes
  have hb3 := hb2.trans (hown3.below.mono hb2.size)
  have hsl2 := hsl2.below hown3.below
  have hB2 : w2.heap.size ≤ w3.heap.size := hown3.below.size
  clear hown3
  -- append(append([]byte{}, p...), more...)
  have hemp := Own.empty w3 5
  have hn3 := (Below.refl w3.heap.size w3).alloc (Nat.le_refl _) (.cells #[] 5)
  have hs1a := hs1.below hb3
  go_wp2_with (first
    | (at_builtin; refine wpList_cat rfl (.tmp 42) (.tmp 43) _ rfl _ 1 Try.underlying22 elem_u8 (by decide) _ _ _ _ _ _ B2 _ d2 (u8s (Leb.putU v)) rfl hemp rfl ((hsl2.more hB2).below hn3) (by simp) (u8s_one _) (by simp; omega) ?_; intro v4 w4 hown4; have hs1b := hs1a.below (hown4.below.mono hb3.size))
    | (at_builtin; refine wpList_cat rfl (.tmp 44) (.tmp 45) _ rfl _ 1 Try.underlying22 elem_u8 (by decide) _ _ _ _ _ _ A1 _ c1 (u8s mo) rfl hown4 rfl hs1b (by simp) (u8s_one _) (by simp; omega) ?_; intro v5 w5 hown5))
  obtain ⟨B5, d5, rfl, hd51, hd52, hsl5⟩ := Own.bytes (bs := Leb.putU v ++ mo) (by simpa [u8s] using hown5)
  have hb5 := hb3.trans (hown5.below.mono hb3.size)
  have hsl3b := hsl3.below hown5.below
  have hB3 : w3.heap.size ≤ w5.heap.size := hown5.below.size
  have HU := Lib.hid (U_int (at_ := 0) (bits := 64) _ hsl5 (Nat.le_refl _) rfl hd51 hd52 (by decide) (by decide) (by decide) (by omega) HR1.out)
  clear hown4 hown5 hsl2 hsl3 hs1a hs1b hemp hn3 HR1
  go_wp2_with fail
  with_reducible refine HU.out.mono ?_
  rintro e w6 ⟨rfl, nq, hw6⟩
  unfold uV
  have hb56 : Below w5.heap.size w5 w6 := by rw [hw6]; exact below_drewN (Below.refl _ _) _
  have hb6 := hb5.trans (hb56.mono hb5.size)
  have hsl3c := (hsl3b.more hB3).below hb56
  clear hw6 HU
  have hemp := Own.empty w6 5
  have hn6 := (Below.refl w6.heap.size w6).alloc (Nat.le_refl _) (.cells #[] 5)
  have hs1a := hs1.below hb6
  go_wp2_with (first
    | (at_builtin; refine wpList_cat rfl (.tmp 52) (.tmp 53) _ rfl _ 1 Try.underlying22 elem_u8 (by decide) _ _ _ _ _ _ B3 _ d3 (u8s (Leb.putS z)) rfl hemp rfl ((hsl3c.more hb56.size).below hn6) (by simp) (u8s_one _) (by simp; omega) ?_; intro v7 w7 hown7; have hs1b := hs1a.below (hown7.below.mono hb6.size))
    | (at_builtin; refine wpList_cat rfl (.tmp 54) (.tmp 55) _ rfl _ 1 Try.underlying22 elem_u8 (by decide) _ _ _ _ _ _ A1 _ c1 (u8s mo) rfl hown7 rfl hs1b (by simp) (u8s_one _) (by simp; omega) ?_; intro v8 w8 hown8))
  obtain ⟨B8, d8, rfl, hd81, hd82, hsl8⟩ := Own.bytes (bs := Leb.putS z ++ mo) (by simpa [u8s] using hown8)
  have hb8 := hb6.trans (hown8.below.mono hb6.size)
  have HS := Lib.hid (S_int (at_ := 0) (bits := 64) _ hsl8 (Nat.le_refl _) rfl hd81 hd82 (by decide) (by decide) (by decide) (by omega) HR2.out)
  have hs2b := hs2.below hb8
  have hB8 : w.heap.size ≤ w8.heap.size := hb8.size
  clear hown7 hown8 hsl3c hs1a hs1b hemp hn6 HR2 hsl8 hsl5 hsl3b hs1 hs2
  go_wp2_with fail
  with_reducible refine HS.out.mono ?_
  rintro e w9 ⟨rfl, rfl⟩
  unfold sV
  clear HS
  have z3 : IntKind.u64.wrap z = (v : Int) := by rw [IntKind.wrap_u64]; exact Z3.out
  go_wp2_with fail
  clear z3
  with_reducible refine (U_res _ _ hs2b hB8 rfl hc2 hm2).mono ?_
  rintro e w10 ⟨hU, nq, hw10⟩
  have hb810 : Below w8.heap.size w8 w10 := by rw [hw10]; exact below_drewN (Below.refl _ _) _
  have hb10 := hb8.trans (hb810.mono hb8.size)
  have hs2c := hs2b.below (hb810.mono hB8)
  clear hw10 hs2b
  rcases hU with ⟨k, rfl⟩ | ⟨x, j, rfl, hx, hat0, hjn, hxl⟩
  · go_wp2_with fail
    with_reducible refine (S_res _ _ hs2c hb10.size rfl hc2 hm2).mono ?_
    rintro e w11 ⟨hS, rfl⟩
    rcases hS with ⟨k2, rfl⟩ | ⟨x2, j2, rfl, hx21, hx22, hat2, hjn2, hxl2⟩
    · go_wp2
      go_ret
      exact ⟨rfl, hb10⟩
    · go_wp2_with fail
      with_reducible refine (PutS_any _ _ hx21 hx22).mono ?_
      rintro e w12 ⟨s, rfl, hown⟩
      obtain ⟨B12, d12, rfl, _, _, _⟩ := hown.bytes
      have hb12 := hb10.trans (hown.below.mono hb10.size)
      clear hown
      go_wp2
      go_ret
      exact ⟨rfl, hb12⟩
  · go_wp2_with fail
    with_reducible refine (S_res _ _ hs2c hb10.size rfl hc2 hm2).mono ?_
    rintro e w11 ⟨hS, rfl⟩
    rcases hS with ⟨k2, rfl⟩ | ⟨x2, j2, rfl, hx21, hx22, hat2, hjn2, hxl2⟩
    · go_wp2_with fail
      with_reducible refine (PutU_any _ _ hx).mono ?_
      rintro e w12 ⟨s, rfl, hown⟩
      obtain ⟨B12, d12, rfl, _, _, _⟩ := hown.bytes
      have hb12 := hb10.trans (hown.below.mono hb10.size)
      clear hown
      go_wp2
      go_ret
      exact ⟨rfl, hb12⟩
    · go_wp2_with fail
      with_reducible refine (PutU_any _ _ hx).mono ?_
      rintro e w12 ⟨s, rfl, hown⟩
      obtain ⟨B12, d12, rfl, _, _, _⟩ := hown.bytes
      have hb12 := hb10.trans (hown.below.mono hb10.size)
      clear hown
      go_wp2_with fail
      with_reducible refine (PutS_any _ _ hx21 hx22).mono ?_
      rintro e w13 ⟨s, rfl, hown⟩
      obtain ⟨B13, d13, rfl, _, _, _⟩ := hown.bytes
      have hb13 := hb12.trans (hown.below.mono hb12.size)
      clear hown
      go_wp2
      go_ret
      exact ⟨rfl, hb13⟩

end Go.Proofs.Ytdmgmlhcpkampaa
