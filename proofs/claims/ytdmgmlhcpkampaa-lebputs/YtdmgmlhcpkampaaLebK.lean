/- The walk of LebReads: it returns true, whatever the input; nothing that was there changes. -/
import Derived.Test.YtdmgmlhcpkampaaLebJ
import Derived.Test.YtdmgmlhcpkampaaErrs
namespace Go.Proofs.Ytdmgmlhcpkampaa
open Go.RowKit

def rV : Option (Nat × Nat) → Value
  | some (x, n) => .tuple #[.int .u64 (x : Int), .int .i64 (n : Int), .bool true]
  | none => .tuple #[.int .u64 0, .int .i64 0, .bool false]

/-- the document's answer without a sign is leb.U's. -/
theorem ReadU (A : Option Addr) (c : Nat) (bs : List UInt8) (at_ bits : Int) (w : World) (B : Nat) (hs : Sl w B A (u8s bs)) (hB : B ≤ w.heap.size) (hc : bs.length ≤ c) (hm : c ≤ maxLen) (h2 : 0 ≤ at_) (h3 : at_ ≤ bs.length) (h0 : 1 ≤ bits) (h1 : bits ≤ 64) :
    Calls Try.prog 12 #[.slice A bs.length c, .int .i64 at_, .int .i64 bits, .bool false] w fun e w' => e = .returned (rV (Leb.uOf bs at_.toNat bits.toNat)) ∧ Below w.heap.size w w' := by
  obtain ⟨k, rfl⟩ := Int.eq_ofNat_of_zero_le h2
  obtain ⟨b, rfl⟩ := Int.eq_ofNat_of_zero_le (show 0 ≤ bits by omega)
  refine (Read_any A c bs k b false w (hs.more hB) hc hm (by omega) (by omega) (by omega)).mono fun e w' ⟨hb, h⟩ => ⟨?_, hb⟩
  rw [Int.toNat_natCast, Int.toNat_natCast]
  rcases h with ⟨hl, rfl⟩ | ⟨j, hl, ⟨hn, rfl⟩ | ⟨ha, rfl⟩⟩
  · rw [Leb.uOf, hl]; rfl
  · rw [(Leb.uOf_ref bs k b j (by omega) (by omega) hl).2 (by simpa [mo] using hn)]; rfl
  · rw [(Leb.uOf_ref bs k b j (by omega) (by omega) hl).1 (by simpa [mo] using ha)]
    simp [rV, mo]
/-- the document's answer with a sign is leb.S's. -/
theorem ReadS (A : Option Addr) (c : Nat) (bs : List UInt8) (at_ bits : Int) (w : World) (B : Nat) (hs : Sl w B A (u8s bs)) (hB : B ≤ w.heap.size) (hc : bs.length ≤ c) (hm : c ≤ maxLen) (h2 : 0 ≤ at_) (h3 : at_ ≤ bs.length) (h0 : 1 ≤ bits) (h1 : bits ≤ 64) :
    Calls Try.prog 12 #[.slice A bs.length c, .int .i64 at_, .int .i64 bits, .bool true] w fun e w' => e = .returned (rV ((Leb.sOf bs at_.toNat bits.toNat).map fun p => ((p.1 % 18446744073709551616).toNat, p.2))) ∧ Below w.heap.size w w' := by
  obtain ⟨k, rfl⟩ := Int.eq_ofNat_of_zero_le h2
  obtain ⟨b, rfl⟩ := Int.eq_ofNat_of_zero_le (show 0 ≤ bits by omega)
  refine (Read_any A c bs k b true w (hs.more hB) hc hm (by omega) (by omega) (by omega)).mono fun e w' ⟨hb, h⟩ => ⟨?_, hb⟩
  rw [Int.toNat_natCast, Int.toNat_natCast]
  rcases h with ⟨hl, rfl⟩ | ⟨j, hl, ⟨hn, rfl⟩ | ⟨ha, rfl⟩⟩
  · rw [Leb.sOf, hl]; rfl
  · rw [(Leb.sOf_ref bs k b j (by omega) (by omega) hl).2 (by simpa [mo] using hn)]; rfl
  · obtain ⟨s, hs1, hs2⟩ := (Leb.sOf_ref bs k b j (by omega) (by omega) hl).1 (by simpa [mo] using ha)
    rw [hs1]
    simp [rV, mo]
    omega

set_option maxHeartbeats 4000000 in
set_option maxRecDepth 100000 in
theorem walk_LebReads (A : Option Addr) (c : Nat) (bs : List UInt8) (at_ bits : Int) (w : World) (hs : Sl w w.heap.size A (u8s bs)) (hc : bs.length ≤ c) (hm : c ≤ maxLen)
    (hat : (Lit.int .i64 at_).wf = true) (hbi : (Lit.int .i64 bits).wf = true) :
    Calls Try.prog 3 #[.slice A bs.length c, .int .i64 at_, .int .i64 bits] w fun e w' => e = .returned (.bool true) ∧ Below w.heap.size w w' := by
  have hm' := hm
  unfold maxLen at hm'
  clear hat hbi
  have heq := fun wx x y => run_eql_code wx x y
  by_cases hbig : 1000 < bs.length
  · go_enter Try.func3, Try.ntmps3
    go_wp2_with fail
    with_reducible refine (up_any _).mono ?_
    rintro e w1 ⟨rfl, hb1⟩
    go_wp2
    go_ret
    exact ⟨rfl, hb1⟩
  by_cases hbad : bits < 1 ∨ 64 < bits ∨ at_ < 0 ∨ bs.length < at_
  · have HB := Lib.hid hbad
    have hcs : bits < 1 ∨ (¬ bits < 1 ∧ 64 < bits) ∨ (¬ bits < 1 ∧ ¬ 64 < bits ∧ at_ < 0) ∨ (¬ bits < 1 ∧ ¬ 64 < bits ∧ ¬ at_ < 0 ∧ bs.length < at_) := by omega
    clear hbad
    rcases hcs with b1 | ⟨b1, b2⟩ | ⟨b1, b2, b3⟩ | ⟨b1, b2, b3, b4⟩
    all_goals
      go_enter Try.func3, Try.ntmps3
      go_wp2_with fail
      with_reducible refine (up_any _).mono ?_
      rintro e w1 ⟨rfl, hb1⟩
      go_wp2_with fail
      with_reducible refine (U_bad _ _ _ _ _ _ HB.out).mono ?_
      rintro e w2 ⟨rfl, rfl⟩
      go_wp2_with fail
      with_reducible refine (S_bad _ _ _ _ _ _ HB.out).mono ?_
      rintro e w2 ⟨rfl, rfl⟩
      go_wp2
      go_ret
      exact ⟨rfl, hb1⟩
  · have b1 : 1 ≤ bits := by omega
    have b2 : bits ≤ 64 := by omega
    have b3 : 0 ≤ at_ := by omega
    have b4 : at_ ≤ bs.length := by omega
    have t1 : decide (bits < 1) = false := by simp; omega
    have t2 : decide (64 < bits) = false := by simp; omega
    have t3 : decide (at_ < 0) = false := by simp; omega
    have t4 : decide ((bs.length : Int) < at_) = false := by simp; omega
    clear hbad
    have hUle : ∀ p, Leb.uOf bs at_.toNat bits.toNat = some p → p.2 ≤ bs.length := fun p hp => Leb.uOf_le _ _ _ p.1 _ hp
    have hSle : ∀ p, Leb.sOf bs at_.toNat bits.toNat = some p → p.2 ≤ bs.length := fun p hp => Leb.sOf_le _ _ _ _ p.1 hp
    obtain ⟨ru, hru⟩ : ∃ r, Leb.uOf bs at_.toNat bits.toNat = r := ⟨_, rfl⟩
    obtain ⟨rs, hrs⟩ : ∃ r, Leb.sOf bs at_.toNat bits.toNat = r := ⟨_, rfl⟩
    have HRU := Lib.hid hru
    have HRS := Lib.hid hrs
    have ht5 : ∀ p, rs = some p → IntKind.u64.wrap p.1 = ((p.1 % 18446744073709551616).toNat : Int) := fun p _ => by rw [IntKind.wrap_u64]; omega
    clear hru hrs
    rcases ru with _ | ⟨x, n⟩
    all_goals
      rcases rs with _ | ⟨s, n2⟩
      all_goals
        try (have t5 := ht5 _ rfl; simp only [] at t5; obtain ⟨y, hy⟩ : ∃ y, y = (s % 18446744073709551616).toNat := ⟨_, rfl⟩)
        clear ht5
        go_enter Try.func3, Try.ntmps3
        go_wp2_with fail
        with_reducible refine (up_any _).mono ?_
        rintro e w1 ⟨rfl, hb1⟩
        have hs1 := hs.below hb1
        go_wp2_with fail
        with_reducible refine (U_int _ hs1 hb1.size rfl hc hm b1 b2 b3 b4 HRU.out).mono ?_
        rintro e w2 ⟨rfl, nq, hw2⟩
        have hb2 : Below w.heap.size w w2 := by rw [hw2]; exact below_drewN hb1 _
        have hs2 := hs.below hb2
        clear hw2 hs1
        unfold uV
        go_wp2_with fail
        with_reducible refine (S_int _ hs2 hb2.size rfl hc hm b1 b2 b3 b4 HRS.out).mono ?_
        rintro e w3 ⟨rfl, rfl⟩
        unfold sV
        have hRU := ReadU A c bs at_ bits w2 _ hs2 hb2.size hc hm b3 b4 b1 b2
        rw [HRU.out] at hRU
        have HRU2 := Lib.hid hRU
        clear hRU hs2
        go_wp2_with fail
        with_reducible refine HRU2.out.mono ?_
        rintro e w4 ⟨rfl, hb4⟩
        have hb5 := hb2.trans (hb4.mono hb2.size)
        have hRS := ReadS A c bs at_ bits w4 _ (hs.below hb5) hb5.size hc hm b3 b4 b1 b2
        rw [HRS.out] at hRS
        have HRS2 := Lib.hid hRS
        clear hRS HRU2
        unfold rV
        go_wp2_with fail
        with_reducible refine HRS2.out.mono ?_
        rintro e w6 ⟨rfl, hb6⟩
        have hb7 := hb5.trans (hb6.mono hb5.size)
        clear HRS2
        simp only [Option.map_none, Option.map_some]
        unfold rV
        try (rw [← hy] at t5 ⊢)
        go_wp2
        go_ret
        exact ⟨rfl, hb7⟩

end Go.Proofs.Ytdmgmlhcpkampaa
