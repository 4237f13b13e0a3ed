/- unicode/utf8.DecodeRune, of a slice of bytes that isn't empty: what Lib.decodeN tells. Plain lemmas, no condition. -/
import Derived.Test.YtfefabeamcdihaaDoorU8
namespace Go.Proofs.YtfefabeamcdihaaDoor
open Go.RowKit Go.Lib

theorem slow_any (b off c : Nat) (bs : List UInt8) (w : World) (hT : U8T w) (hs : Sl w w.heap.size (some ⟨b, off, none⟩) (u8s bs)) (hn : 1 ≤ bs.length) (h128 : 128 ≤ Utf.at_ bs 0) :
    Calls Tryd.prog 24 #[.slice (some ⟨b, off, none⟩) bs.length c] w fun e w' => e = .returned (.tuple #[.int .i32 (Utf.dec bs).1, .int .i64 (Utf.dec bs).2]) ∧ Below w.heap.size w w' := by
  have c0 := u8_cell hs 0 hn
  rw [Nat.add_zero] at c0
  have c1 := u8_cell hs 1
  have c2 := u8_cell hs 2
  have c3 := u8_cell hs 3
  have l0 := Utf.at_lt bs 0
  have l1 := Utf.at_lt bs 1
  have l2 := Utf.at_lt bs 2
  have l3 := Utf.at_lt bs 3
  have hd : Utf.dec bs = decodeN bs.length (Utf.at_ bs 0) (Utf.at_ bs 1) (Utf.at_ bs 2) (Utf.at_ bs 3) := rfl
  have hres : firstT (Utf.at_ bs 0) < 240 → decodeN bs.length (Utf.at_ bs 0) (Utf.at_ bs 1) (Utf.at_ bs 2) (Utf.at_ bs 3) = slowN bs.length (Utf.at_ bs 0) (Utf.at_ bs 1) (Utf.at_ bs 2) (Utf.at_ bs 3) (firstT (Utf.at_ bs 0) % 8) (accLo (firstT (Utf.at_ bs 0) / 16)) (accHi (firstT (Utf.at_ bs 0) / 16)) :=
    fun h => (Lib.slow_eq _ _ _ _ _ hn l1 l2 l3 h).symm
  rcases Utf.first_cases _ h128 with hX | hX | hX | hX | hX | hX | hX | hX
  · rw [hd, Lib.bad_eq _ _ _ _ _ l0 hX]
    exact slow_bad b off c _ _ w hT c0 l0 hn hX
  all_goals
    rw [hd, hres (by omega), hX]
    simp only [accLo, accHi, Nat.reduceMul, Nat.reduceAdd, Nat.reduceEqDiff, if_true, if_false, Nat.reduceMod, Nat.reduceDiv]
  · exact slow_2 b off c _ _ _ _ _ w hT c0 l0 c1 l1 hn hX
  · exact slow_19 b off c _ _ _ _ _ w hT c0 l0 c1 l1 c2 l2 hn hX
  · exact slow_3 b off c _ _ _ _ _ w hT c0 l0 c1 l1 c2 l2 hn hX
  · exact slow_35 b off c _ _ _ _ _ w hT c0 l0 c1 l1 c2 l2 hn hX
  · exact slow_52 b off c _ _ _ _ _ w hT c0 l0 c1 l1 c2 l2 c3 l3 hn hX
  · exact slow_4 b off c _ _ _ _ _ w hT c0 l0 c1 l1 c2 l2 c3 l3 hn hX
  · exact slow_68 b off c _ _ _ _ _ w hT c0 l0 c1 l1 c2 l2 c3 l3 hn hX

theorem Utf.dec_ascii (bs : List UInt8) (h : Utf.at_ bs 0 < 128) : Utf.dec bs = (Utf.at_ bs 0, 1) := by
  unfold Utf.dec decodeN
  rw [if_pos h]

set_option maxHeartbeats 1000000 in
set_option maxRecDepth 100000 in
theorem decode_any (A : Option Addr) (c : Nat) (bs : List UInt8) (w : World) (hT : U8T w) (hs : Sl w w.heap.size A (u8s bs)) (hn : 1 ≤ bs.length) (hc : bs.length ≤ c) (hm : c ≤ maxLen) :
    Calls Tryd.prog 17 #[.slice A bs.length c] w fun e w' => e = .returned (.tuple #[.int .i32 (Utf.dec bs).1, .int .i64 (Utf.dec bs).2]) ∧ Below w.heap.size w w' := by
  obtain ⟨b, off, rfl, hbl, _⟩ := hs (by intro e; have := congrArg List.length e; simp at this; simp [this] at hn)
  unfold maxLen at hm
  have c0 := u8_cell hs 0 hn
  rw [Nat.add_zero] at c0
  have l0 := Utf.at_lt bs 0
  have HS := Lib.hid (slow_any b off c bs w hT hs hn)
  have HD := Lib.hid (Utf.dec_ascii bs)
  have hn0 : (0 : Int) < (bs.length : Int) := by omega
  obtain ⟨d, hd⟩ : ∃ d, Utf.dec bs = d := ⟨_, rfl⟩
  obtain ⟨x, hx⟩ : ∃ x, Utf.at_ bs 0 = x := ⟨_, rfl⟩
  obtain ⟨n, hnn⟩ : ∃ n, bs.length = n := ⟨_, rfl⟩
  rw [hd, hx, hnn] at HS
  rw [hd, hx] at HD
  rw [hx] at c0 l0
  rw [hd, hnn]
  rw [hnn] at hn hc hn0
  clear hd hx hnn hs hT
  by_cases h : x < 128
  · have h2 := HD.out h
    subst h2
    go_enter Tryd.func17, Tryd.ntmps17
    go_wp2
    refine wp_loop_rounds 1 ?_
    rw [rounds_succ]
    go_wp2
    go_ret2
    exact ⟨rfl, Below.refl _ _⟩
  · go_enter Tryd.func17, Tryd.ntmps17
    go_wp2
    refine wp_loop_rounds 1 ?_
    rw [rounds_succ]
    go_wp2_with fail
    with_reducible refine (HS.out (by omega)).mono ?_
    rintro e w1 ⟨rfl, hb⟩
    go_wp2
    go_ret2
    exact ⟨rfl, hb⟩

end Go.Proofs.YtfefabeamcdihaaDoor
