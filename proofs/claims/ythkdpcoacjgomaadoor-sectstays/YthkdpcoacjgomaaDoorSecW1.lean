/- The walks of SectJoins and SectSplits: each returns true, whatever the input; nothing that was there changes. -/
import Derived.Test.YthkdpcoacjgomaaDoorSecG
import Derived.Test.YthkdpcoacjgomaaDoorSecI
import Derived.Test.YthkdpcoacjgomaaDoorSecJ
set_option linter.unusedVariables false
set_option linter.unusedSimpArgs false
namespace Go.Proofs.YthkdpcoacjgomaaDoor
open Go.RowKit Trx

theorem jnB_small (l : List Sc) (h1 : l.length ≤ 300) (h2 : sumB l ≤ 10000) : (jnB l).length ≤ 100000 := by
  have h : ∀ l : List Sc, (Sect.encL (l.map Sc.key)).length ≤ l.length * 12 + sumB l ∨ 10000 < sumB l := by
    intro l
    induction l with
    | nil => left; simp [Sect.encL]
    | cons s r ih =>
      have e : sumB (s :: r) = s.bs.length + sumB r := by simp [sumB]
      rcases ih with ih | ih
      · by_cases hb : 10000 < sumB (s :: r)
        · exact .inr hb
        · left
          have h10 : (Leb.putU s.bs.length).length ≤ 10 := Leb.putU_len10 (by omega)
          rw [List.map_cons, Sect.encL_cons, List.length_append, Sect.encS_length, List.length_cons, e]
          have e1 : s.key.2 = s.bs := rfl
          rw [e1]
          omega
      · right; omega
  rcases h l with h | h
  · unfold jnB
    rw [List.length_append]
    have : Sect.magic.length = 8 := rfl
    omega
  · omega

set_option maxHeartbeats 8000000 in
set_option maxRecDepth 100000 in
theorem walk_SectJoins (A : Option Addr) (c : Nat) (l : List Sc) (w : World) (hs : SecsAt w w.heap.size A l) (hl : l.length * 40 ≤ RB) (hE : Et w) :
    Calls Tryd.prog 4 #[.slice A l.length c] w fun e w' => e = .returned (.bool true) ∧ Below w.heap.size w w' := by
  have HU := Lib.hid (up_any w hE)
  have HSm := Lib.hid (fun w' (h : Below w.heap.size w w') => small_any l A c w' (hs.later h) hl)
  have HS := Lib.hid hs
  have heq := run_eql_code
  clear hs hE
  have key : ∀ w2, Below w.heap.size w w2 → l.length ≤ 300 → sumB l ≤ 10000 → Calls Tryd.prog 14 #[.slice A l.length c] w2 (JoinR l w2) ∧ ∀ w3, Below w.heap.size w w3 → Calls Tryd.prog 15 #[.slice A l.length c] w3 (RJoinR l w3) := fun w2 hb h1 h2 => by
    have hj := jnB_small l h1 h2
    exact ⟨Join_any l A c w2 (HS.out.later hb) (by omega) (by omega), fun w3 hb3 => RJoin_any l A c w3 (HS.out.later hb3) (by omega) (by omega)⟩
  have HKey := Lib.hid key
  clear key
  obtain ⟨r, hr⟩ : ∃ r, Sect.rise 0 (l.map (·.id)) = r := ⟨_, rfl⟩
  obtain ⟨q, hq⟩ : ∃ q, decide (l.length ≤ 128) = q := ⟨_, rfl⟩
  have hm : mayJ l = (q && r) := by unfold mayJ; rw [hr, hq]
  have HR := Lib.hid hr
  have HM := Lib.hid hm
  have HQ := Lib.hid hq
  clear hr hm hq
  go_enter Tryd.func4, Tryd.ntmps4
  go_wp2_with (first | (go_at_call 8; (with_reducible refine HU.out.mono ?_); rintro e w1 ⟨rfl, hb1⟩; have HB1 := Lib.hid hb1; clear hb1))
  with_reducible refine (HSm.out _ HB1.out).mono ?_
  rintro e w2 ⟨ok, rfl, hok, hw2⟩
  subst hw2
  cases ok
  · go_wp2_with fail
    go_ret
    exact ⟨rfl, HB1.out⟩
  · obtain ⟨h1, h2⟩ := hok rfl
    obtain ⟨hJ, hRJ⟩ := HKey.out w1 HB1.out h1 h2
    unfold JoinR at hJ
    unfold RJoinR at hRJ
    rw [HM.out] at hJ
    rw [HR.out, HQ.out] at hRJ
    have HJ := Lib.hid hJ
    have HRJ := Lib.hid hRJ
    clear hJ hRJ h1 h2
    have ts : (jnB l == jnB l) = true := by simp
    cases r
    · rw [show (q && false) = false by simp] at HJ
      dsimp only at HJ HRJ
      go_wp2_with (first
        | (go_at_call 14; (with_reducible refine HJ.out.mono ?_); rintro e w3 ⟨rfl, hb3⟩; have HB3 := Lib.hid (HB1.out.trans (hb3.mono HB1.out.size)); clear hb3)
        | (go_at_call 15; (with_reducible refine (HRJ.out _ HB3.out).mono ?_); rintro e w4 ⟨rfl, hb4⟩; have HB4 := Lib.hid (HB3.out.trans (hb4.mono HB3.out.size)); clear hb4))
      go_ret
      exact ⟨rfl, HB4.out⟩
    · cases q
      · dsimp only [Bool.and_true] at HJ HRJ
        go_wp2_with (first
          | (go_at_call 14; (with_reducible refine HJ.out.mono ?_); rintro e w3 ⟨rfl, hb3⟩; have HB3 := Lib.hid (HB1.out.trans (hb3.mono HB1.out.size)); clear hb3)
          | (go_at_call 15; (with_reducible refine (HRJ.out _ HB3.out).mono ?_); rintro e w4 ⟨g4, c4, rfl, hc4, hm4, hl4⟩; have HB4 := Lib.hid (HB3.out.trans (hl4.below.mono HB3.out.size)); clear hl4))
        go_ret
        exact ⟨rfl, HB4.out⟩
      · dsimp only [Bool.and_true] at HJ HRJ
        go_wp2_with (first
          | (go_at_call 14; (with_reducible refine HJ.out.mono ?_); rintro e w3 ⟨g3, c3, rfl, hc3, hm3, hl3⟩; have HL3 := Lib.hid hl3; have HB3 := Lib.hid (HB1.out.trans (hl3.below.mono HB1.out.size)); clear hl3)
          | (go_at_call 15; (with_reducible refine (HRJ.out _ HB3.out).mono ?_); rintro e w4 ⟨g4, c4, rfl, hc4, hm4, hl4⟩; have HB4 := Lib.hid (HB3.out.trans (hl4.below.mono HB3.out.size)); have v3 := string_of (HL3.out.later hl4.below).sl c3; have v4 := string_of hl4.sl c4; clear hl4))
        go_ret
        exact ⟨rfl, HB4.out⟩
end Go.Proofs.YthkdpcoacjgomaaDoor
