/- grommetlaw03.NumAll returns true for every input. -/
import Derived.Test.YtdenmbigdklhkaaDoorNumI
import Derived.Test.YtdenmbigdklhkaaDoorRefH
namespace Go.Proofs.YtdenmbigdklhkaaDoor
open Go.RowKit

theorem all1 (op x y : Int) (w : World) (h0 : 0 ≤ op) (hn : Num.many op = 1) (ha : 0 ≤ x ∧ x < 2 ^ Num.bitsOf op) (hT : TabT w) (v : Int) (hv : Num.ev1 op x = v) :
    Calls Tryd.prog 13 #[.int .i64 op, .slice (some ⟨w.heap.size, 0, none⟩) 1 2] (w.alloc (.cells #[.int .u64 x, .int .u64 y] 28)) fun e w' => e = .returned (.tuple #[.int .u64 v, .int .i64 0, .nilIface]) ∧ Sl w' w'.heap.size (some ⟨w.heap.size, 0, none⟩) (u64s [x]) ∧ Below w.heap.size w w' := by
  have h2 := many_one op hn
  have hs : Sl (w.alloc (.cells #[.int .u64 x, .int .u64 y] 28)) (w.alloc (.cells #[.int .u64 x, .int .u64 y] 28)).heap.size (some ⟨w.heap.size, 0, none⟩) (u64s [x]) := (Sl.lit64 w [x, y] 28).take 1
  have h := Eval_one op x (some ⟨w.heap.size, 0, none⟩) 2 _ (by omega) (by omega) hn hs (by decide) (by decide) ha (hT.below ((Below.refl _ _).alloc (Nat.le_refl _) _))
  rw [hv] at h
  refine h.mono ?_
  rintro e w' ⟨rfl, nq, rfl⟩
  exact ⟨rfl, hs, below_drewN ((Below.refl _ _).alloc (Nat.le_refl _) _) nq⟩
theorem all2 (op x y : Int) (w : World) (h0 : 0 ≤ op) (hn : Num.many op = 2) (ha : 0 ≤ x ∧ x < 2 ^ Num.bitsOf op) (hb : 0 ≤ y ∧ y < 2 ^ Num.bitsOf op) (v t : Int) (hv : Num.ev2 op x y = (v, t)) :
    Calls Tryd.prog 13 #[.int .i64 op, .slice (some ⟨w.heap.size, 0, none⟩) 2 2] (w.alloc (.cells #[.int .u64 x, .int .u64 y] 28)) fun e w' => e = .returned (.tuple #[.int .u64 v, .int .i64 t, .nilIface]) ∧ Sl w' w'.heap.size (some ⟨w.heap.size, 0, none⟩) (u64s [x, y]) ∧ Below w.heap.size w w' := by
  have h2 := many_two op hn
  have hs : Sl (w.alloc (.cells #[.int .u64 x, .int .u64 y] 28)) (w.alloc (.cells #[.int .u64 x, .int .u64 y] 28)).heap.size (some ⟨w.heap.size, 0, none⟩) (u64s [x, y]) := Sl.lit64 w [x, y] 28
  have h := Eval_two op x y (some ⟨w.heap.size, 0, none⟩) 2 _ (by omega) (by omega) hn hs (by decide) (by decide) ha hb
  rw [hv] at h
  refine h.mono ?_
  rintro e w' ⟨rfl, nq, rfl⟩
  exact ⟨rfl, hs, below_drewN ((Below.refl _ _).alloc (Nat.le_refl _) _) nq⟩

set_option maxHeartbeats 8000000 in
set_option maxRecDepth 100000 in
theorem walk_NumAll (a b : Int) (w : World) (ha : (Lit.int .u64 a).wf = true) (hb : (Lit.int .u64 b).wf = true) (hT : TabT w) :
    Calls Tryd.prog 5 #[.int .u64 a, .int .u64 b] w fun e w' => e = .returned (.bool true) ∧ Below w.heap.size w w' := by
  obtain ⟨a0, a1⟩ := bounds_u64 ha
  obtain ⟨b0, b1⟩ := bounds_u64 hb
  have HT := Lib.hid hT
  clear ha hb hT
  go_enter Tryd.func5, Tryd.ntmps5
  go_wp2_with fail
  refine (up_any _).mono ?_
  rintro e w1 ⟨rfl, hb1⟩
  go_wp2
  go_loopw [6] (fun i wr => ∃ o : Int, 69 ≤ o ∧ o ≤ 174 ∧ i = .int .i64 o ∧ Below w.heap.size w wr) (fun i _ => (174 - intOf i).toNat)
  case atStart => exact ⟨69, by decide, by decide, rfl, hb1⟩
  case round =>
    obtain ⟨o, h1, h2, rfl, hbel⟩ := hrel
    clear hb1
    by_cases hlt : o ≤ 173
    · have HR := Lib.hid (fun w => rArgs_any o w)
      have HB := Lib.hid (fun w => rBits_any o w)
      have hbb : Num.bitsOf o = 32 ∨ Num.bitsOf o = 64 := by unfold Num.bitsOf; split <;> simp
      rcases many_cases o with hm | hm | hm
      · rw [show refMany o = 1 by simp [refMany, hm]] at HR
        rcases hbb with hbb | hbb
        · skip
          have HE := Lib.hid (all1 o (a % 4294967296) (b % 4294967296) wr (by omega) hm (by rw [hbb]; simp; omega) (HT.out.below hbel) (Num.ev1 o (a % 4294967296)) rfl)
          have HQ := Lib.hid (fun w hs => rEval_one o (a % 4294967296) (some ⟨wr.heap.size, 0, none⟩) 2 w hm hs (by decide) (by decide) (by rw [hbb]; simp; omega))
          unfold refOk at HQ
          obtain ⟨v, hv⟩ : ∃ v, v = Num.ev1 o (a % 4294967296) := ⟨_, rfl⟩
          rw [← hv] at HE HQ
          have t1 : (v != v) = false := by simp
          clear hv
          rw [hbb, show ((32 : Nat) : Int) = 32 from rfl] at HB
          clear hm hbb
          go_wp2_with (first | (go_at_call 12; refine (HR.out _).mono ?_; rintro e w' ⟨rfl, rfl⟩) | (go_at_call 14; refine (HB.out _).mono ?_; rintro e w' ⟨rfl, rfl⟩))
          refine HE.out.mono ?_
          rintro e w2 ⟨rfl, hs2, hb2⟩
          replace hb2 := hbel.trans (hb2.mono hbel.size)
          have HQ2 := Lib.hid (HQ.out w2 hs2)
          clear hs2 hbel HE HQ
          go_wp2_with (go_at_call 15; refine HQ2.out.mono ?_; rintro e w' ⟨rfl, rfl⟩)
          go_roundw
          case rel => exact ⟨o + 1, by omega, by omega, by go_num, hb2⟩
          case measure => simp [intOf]; omega
        · skip
          have HE := Lib.hid (all1 o a b wr (by omega) hm (by rw [hbb]; simp; omega) (HT.out.below hbel) (Num.ev1 o a) rfl)
          have HQ := Lib.hid (fun w hs => rEval_one o a (some ⟨wr.heap.size, 0, none⟩) 2 w hm hs (by decide) (by decide) (by rw [hbb]; simp; omega))
          unfold refOk at HQ
          obtain ⟨v, hv⟩ : ∃ v, v = Num.ev1 o a := ⟨_, rfl⟩
          rw [← hv] at HE HQ
          have t1 : (v != v) = false := by simp
          clear hv
          rw [hbb, show ((64 : Nat) : Int) = 64 from rfl] at HB
          clear hm hbb
          go_wp2_with (first | (go_at_call 12; refine (HR.out _).mono ?_; rintro e w' ⟨rfl, rfl⟩) | (go_at_call 14; refine (HB.out _).mono ?_; rintro e w' ⟨rfl, rfl⟩))
          refine HE.out.mono ?_
          rintro e w2 ⟨rfl, hs2, hb2⟩
          replace hb2 := hbel.trans (hb2.mono hbel.size)
          have HQ2 := Lib.hid (HQ.out w2 hs2)
          clear hs2 hbel HE HQ
          go_wp2_with (go_at_call 15; refine HQ2.out.mono ?_; rintro e w' ⟨rfl, rfl⟩)
          go_roundw
          case rel => exact ⟨o + 1, by omega, by omega, by go_num, hb2⟩
          case measure => simp [intOf]; omega
      · rw [show refMany o = 2 by simp [refMany, hm]] at HR
        rcases hbb with hbb | hbb
        · skip
          have HE := Lib.hid (all2 o (a % 4294967296) (b % 4294967296) wr (by omega) hm (by rw [hbb]; simp; omega) (by rw [hbb]; simp; omega) (Num.ev2 o (a % 4294967296) (b % 4294967296)).1 (Num.ev2 o (a % 4294967296) (b % 4294967296)).2 rfl)
          have HQ := Lib.hid (fun w hs => rEval_two o (a % 4294967296) (b % 4294967296) (some ⟨wr.heap.size, 0, none⟩) 2 w hm hs (by decide) (by decide) (by rw [hbb]; simp; omega) (by rw [hbb]; simp; omega))
          unfold refOk at HQ
          obtain ⟨v, hv⟩ : ∃ v, v = (Num.ev2 o (a % 4294967296) (b % 4294967296)).1 := ⟨_, rfl⟩
          obtain ⟨t, ht⟩ : ∃ t, t = (Num.ev2 o (a % 4294967296) (b % 4294967296)).2 := ⟨_, rfl⟩
          rw [← hv, ← ht] at HE HQ
          have t1 : (v != v) = false := by simp
          have t2 : (t != t) = false := by simp
          clear hv ht
          rw [hbb, show ((32 : Nat) : Int) = 32 from rfl] at HB
          clear hm hbb
          go_wp2_with (first | (go_at_call 12; refine (HR.out _).mono ?_; rintro e w' ⟨rfl, rfl⟩) | (go_at_call 14; refine (HB.out _).mono ?_; rintro e w' ⟨rfl, rfl⟩))
          refine HE.out.mono ?_
          rintro e w2 ⟨rfl, hs2, hb2⟩
          replace hb2 := hbel.trans (hb2.mono hbel.size)
          have HQ2 := Lib.hid (HQ.out w2 hs2)
          clear hs2 hbel HE HQ
          go_wp2_with (go_at_call 15; refine HQ2.out.mono ?_; rintro e w' ⟨rfl, rfl⟩)
          go_roundw
          case rel => exact ⟨o + 1, by omega, by omega, by go_num, hb2⟩
          case measure => simp [intOf]; omega
        · skip
          have HE := Lib.hid (all2 o a b wr (by omega) hm (by rw [hbb]; simp; omega) (by rw [hbb]; simp; omega) (Num.ev2 o a b).1 (Num.ev2 o a b).2 rfl)
          have HQ := Lib.hid (fun w hs => rEval_two o a b (some ⟨wr.heap.size, 0, none⟩) 2 w hm hs (by decide) (by decide) (by rw [hbb]; simp; omega) (by rw [hbb]; simp; omega))
          unfold refOk at HQ
          obtain ⟨v, hv⟩ : ∃ v, v = (Num.ev2 o a b).1 := ⟨_, rfl⟩
          obtain ⟨t, ht⟩ : ∃ t, t = (Num.ev2 o a b).2 := ⟨_, rfl⟩
          rw [← hv, ← ht] at HE HQ
          have t1 : (v != v) = false := by simp
          have t2 : (t != t) = false := by simp
          clear hv ht
          rw [hbb, show ((64 : Nat) : Int) = 64 from rfl] at HB
          clear hm hbb
          go_wp2_with (first | (go_at_call 12; refine (HR.out _).mono ?_; rintro e w' ⟨rfl, rfl⟩) | (go_at_call 14; refine (HB.out _).mono ?_; rintro e w' ⟨rfl, rfl⟩))
          refine HE.out.mono ?_
          rintro e w2 ⟨rfl, hs2, hb2⟩
          replace hb2 := hbel.trans (hb2.mono hbel.size)
          have HQ2 := Lib.hid (HQ.out w2 hs2)
          clear hs2 hbel HE HQ
          go_wp2_with (go_at_call 15; refine HQ2.out.mono ?_; rintro e w' ⟨rfl, rfl⟩)
          go_roundw
          case rel => exact ⟨o + 1, by omega, by omega, by go_num, hb2⟩
          case measure => simp [intOf]; omega
      · rw [show refMany o = -1 by simp [refMany, hm]] at HR
        clear hm hbb HB
        go_wp2_with (go_at_call 12; refine (HR.out _).mono ?_; rintro e w' ⟨rfl, rfl⟩)
        go_roundw
        case rel => exact ⟨o + 1, by omega, by omega, by go_num, hbel⟩
        case measure => simp [intOf]; omega
    · go_wp2
      go_ret
      exact ⟨rfl, hbel⟩

end Go.Proofs.YtdenmbigdklhkaaDoor
