/- Contracts of grommetlaw00.Told, grommetlaw07.up and grommetlaw07.small. -/
import Derived.Test.YthkdpcoacjgomaaDoorSecD
import Derived.Test.YthkdpcoacjgomaaDoorSecE
set_option linter.unusedVariables false
set_option linter.unusedSimpArgs false
namespace Go.Proofs.YthkdpcoacjgomaaDoor
open Go.RowKit Trx

set_option maxRecDepth 100000 in
theorem told_any (v : Value) (a k : Nat) (w : World) (hE : Et w) (hs : SpotIs w v a k) :
    Calls Tryd.prog 11 #[v, .int .i64 k, .int .i64 a] w fun e w' => e = .returned (.bool true) ∧ Below w.heap.size w w' := by
  have HI := isSpot_any v a k a k w hE hs
  rw [show ((k : Int) == (k : Int) && (a : Int) == (a : Int)) = true by simp] at HI
  have HI := Lib.hid HI
  have t0 : ¬ ((a : Int) < 0) := by omega
  clear hE hs
  go_enter Tryd.func11, Tryd.ntmps11
  go_wp2_with (first | (go_at_call 16; (with_reducible refine HI.out.mono ?_); rintro e w1 ⟨rfl, hb⟩; have HB := Lib.hid hb; clear hb))
  go_ret
  exact ⟨rfl, HB.out⟩

set_option maxHeartbeats 4000000 in
set_option maxRecDepth 100000 in
theorem up_any (w : World) (hE : Et w) :
    Calls Tryd.prog 8 #[] w fun e w' => e = .returned (.bool true) ∧ Below w.heap.size w w' := by
  have hJ : Calls Tryd.prog 14 #[.slice none 0 0] w (JoinR [] w) := Join_any [] none 0 w SecsAt.nil_ (by simp) (by simp [jnB, Sect.magic, Sect.encL])
  have hm : mayJ [] = true := rfl
  unfold JoinR at hJ
  rw [hm] at hJ
  dsimp only at hJ
  have hb0 : jnB [] = Sect.magic := by simp [jnB, Sect.encL]
  rw [hb0, show Sect.magic.length = 8 from rfl] at hJ
  have hS : ∀ w', Calls Tryd.prog 9 #[.slice none 0 0] w' (SplitR (.error (2, 0)) w') := fun w' => Split_any none 0 [] w' Sl.nil_ (by simp) (by unfold maxLen; omega) (by simp)
  unfold SplitR at hS
  have HJ := Lib.hid hJ
  have HS := Lib.hid hS
  have HE := Lib.hid (fun w' (h : Below w.heap.size w w') => hE.below h)
  have ts : (([0, 97, 115, 109, 1, 0, 0, 0] : List UInt8) == [0, 97, 115, 109, 1, 0, 0, 0]) = true := by decide
  clear hJ hS hm hb0 hE
  go_enter Tryd.func8, Tryd.ntmps8
  go_wp2_with (first
    | (go_at_call 14; (with_reducible refine HJ.out.mono ?_); rintro e w1 ⟨g, c1, rfl, hc1, hm1, hl1⟩; have HL1 := Lib.hid hl1; have HB1 := Lib.hid hl1.below; clear hl1)
    | (go_at_call 9; (with_reducible refine (HS.out _).mono ?_); rintro e w2 ⟨v, rfl, hs2, hb2⟩; have HB2 := Lib.hid (HB1.out.trans (hb2.mono HB1.out.size)); have hcv : (convert 22 9 (.slice (some ⟨g, 0, none⟩) 8 c1)).run Tryd.prog w2 = .ok (.string ⟨#[0, 97, 115, 109, 1, 0, 0, 0]⟩) w2 := string_of (HL1.out.later hb2).sl c1;  have HI := Lib.hid (isSpot_any v 0 2 0 2 w2 (HE.out _ HB2.out) hs2); rw [show ((2 : Int) == 2 && (0 : Int) == 0) = true from rfl] at HI; clear hs2 hb2)
    | (go_at_call 16; (with_reducible refine HI.out.mono ?_); rintro e w3 ⟨rfl, hb3⟩; have HB3 := Lib.hid (HB2.out.trans (hb3.mono HB2.out.size)); clear hb3))
  go_ret
  exact ⟨rfl, HB3.out⟩

def sumB (l : List Sc) : Nat := (l.map fun s => s.bs.length).sum
theorem sumB_succ (l : List Sc) (j : Nat) (h : j < l.length) : sumB (l.take (j + 1)) = sumB (l.take j) + l[j].bs.length := by
  unfold sumB
  rw [List.take_succ_eq_append_getElem h, List.map_append, List.sum_append]
  rfl

def SmallP (l : List Sc) (w : World) : Ending → World → Prop := fun e w' => ∃ r, e = .returned (.bool r) ∧ (r = true → l.length ≤ 300 ∧ sumB l ≤ 10000) ∧ w = w'

set_option maxHeartbeats 4000000 in
set_option maxRecDepth 100000 in
theorem small_any (l : List Sc) (A : Option Addr) (c : Nat) (w : World) (hs : SecsAt w w.heap.size A l) (hl : l.length * 40 ≤ RB) :
    Calls Tryd.prog 13 #[.slice A l.length c] w (SmallP l w) := by
  obtain ⟨P, hP⟩ : ∃ P, SmallP l w = P := ⟨_, rfl⟩
  rw [hP]
  have HPe := Lib.hid hP
  clear hP
  have HS := Lib.hid hs
  unfold RB at hl
  clear hs
  go_enter Tryd.func13, Tryd.ntmps13
  go_wp2_with fail
  go_loopw [3, 4] (fun n i wr => ∃ (j : Nat), j ≤ l.length ∧ i = .int .i64 j ∧ n = .int .i64 (sumB (l.take j)) ∧ sumB (l.take j) ≤ j * 10000 ∧ w = wr) (fun _ i _ => l.length - (intOf i).toNat)
  case atStart => exact ⟨0, by omega, rfl, rfl, by simp [sumB], rfl⟩
  case round =>
    obtain ⟨j, hj, rfl, rfl, hsum, rfl⟩ := hrel
    by_cases hlt : j < l.length
    · obtain ⟨b, o, rfl, hb, q0, q1, q2, ok⟩ := HS.out.at_ hlt
      have hss := sumB_succ l j hlt
      obtain ⟨s, hse⟩ : ∃ s, l[j] = s := ⟨_, rfl⟩
      rw [hse] at q0 q1 q2 ok hss
      obtain ⟨m, hm⟩ : ∃ m, sumB (l.take j) = m := ⟨_, rfl⟩
      rw [hm] at hss hsum ⊢
      have HSS := Lib.hid hss
      clear ok hse hss hm
      by_cases hbig : 10000 < s.bs.length
      · go_wp2_with fail
        rw [← HPe.out]
        exact ⟨false, rfl, fun h => by simp at h, rfl⟩
      · have hns : ¬ ((10000 : Int) < s.bs.length) := by omega
        go_wp2_with fail
        go_roundw
        case rel => exact ⟨j + 1, by omega, by go_num, by rw [HSS.out]; go_num, by rw [HSS.out]; omega, trivial⟩
        case measure => simp [intOf]; omega
    · have hj' : j = l.length := by omega
      rw [hj', List.take_length]
      have hT : sumB (l.take j) = sumB l := by rw [hj', List.take_length]
      rw [hT] at hsum
      obtain ⟨m, hm⟩ : ∃ m, sumB l = m := ⟨_, rfl⟩
      rw [hm] at hsum ⊢
      have HM := Lib.hid hm
      clear hj' hT hm
      by_cases h3 : l.length ≤ 300
      · obtain ⟨q, hq⟩ : ∃ q, decide ((m : Int) ≤ 10000) = q := ⟨_, rfl⟩
        go_wp2_with fail
        rw [← HPe.out]
        exact ⟨q, rfl, fun h => ⟨h3, by rw [HM.out]; subst h; have := of_decide_eq_true hq; omega⟩, rfl⟩
      · have h3' : ¬ ((l.length : Int) ≤ 300) := by omega
        go_wp2_with fail
        rw [← HPe.out]
        exact ⟨false, rfl, fun h => by simp at h, rfl⟩
end Go.Proofs.YthkdpcoacjgomaaDoor
