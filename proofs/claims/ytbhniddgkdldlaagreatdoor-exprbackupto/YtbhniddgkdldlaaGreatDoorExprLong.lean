/- Contract of grommetlaw06.Long: whether one of the lists of labels is too long. -/
import Derived.Test.YtbhniddgkdldlaaGreatDoorExprM
import Derived.Test.YtbhniddgkdldlaaGreatDoorTreeRd
import Derived.Test.YtbhniddgkdldlaaGreatDoorTreeA
set_option linter.unusedVariables false
set_option linter.unusedSimpArgs false
namespace Go.Proofs.YtbhniddgkdldlaaGreatDoor
open Go.RowKit Trx

def lshN (n : Nd) : Bool := decide (n.L.length ≤ 64) && lsh n.body && lsh n.els
theorem lsh_nds (f : Fo) : lsh f = (nds f).all lshN := by
  induction f with
  | nil => rfl
  | cons op a b v t L body els he next _ _ ih => simp [lsh, nds, lshN, ih]
set_option maxHeartbeats 8000000 in
set_option maxRecDepth 100000 in
theorem Long_any (k : Nat) : ∀ (f : Fo) (A : Option Addr) (c : Nat) (w : World), cnt f ≤ k → RdS w w.heap.size A f → len f ≤ maxLen →
    Calls Tryz.prog 17 #[.slice A (len f) c] w fun e w' => e = .returned (.bool (!lsh f)) ∧ w = w' := by
  induction k using Nat.strongRecOn with
  | ind k ih =>
    intro f A c w hk hr hlen
    unfold maxLen at hlen
    have HR := Lib.hid hr
    have HIH := Lib.hid ih
    clear ih hr
    obtain ⟨r, hrr⟩ : ∃ r, r = !lsh f := ⟨_, rfl⟩
    rw [← hrr]
    have HRR := Lib.hid hrr
    clear hrr
    go_enter Tryz.func17, Tryz.ntmps17
    go_wp2_with fail
    go_loop [3] (fun i => ∃ j : Nat, j ≤ len f ∧ i = .int .i64 j ∧ ((nds f).take j).all lshN = true) (fun i => len f - (intOf i).toNat)
    case atStart => exact ⟨0, Nat.zero_le _, rfl, by simp⟩
    case round =>
      obtain ⟨j, hj, rfl, hall⟩ := hrel
      by_cases hlt : j < len f
      · obtain ⟨b, o, n, p, rfl, hn, hat⟩ := HR.out.at_ hlt
        obtain ⟨q0, q1, q2, q3, q4, q5, q6, q7, q8⟩ := hat.nine
        have hb := hat.lt
        have hmem : n ∈ nds f := List.mem_of_getElem? hn
        have hok := hat.ok
        have HB := Lib.hid (HIH.out _ (Nat.lt_of_lt_of_le (cnt_mem hmem).1 hk) n.body p.Ab p.cb w (Nat.le_refl _) hok.body (Nat.le_trans hok.num.hb hok.num.cb))
        have HE := Lib.hid (HIH.out _ (Nat.lt_of_lt_of_le (cnt_mem hmem).2 hk) n.els p.Ae p.ce w (Nat.le_refl _) hok.els (Nat.le_trans hok.num.he hok.num.ce))
        have hbad : lshN n = false → r = true := fun h => by
          rw [HRR.out, lsh_nds]
          simp only [Bool.not_eq_true', List.all_eq_false]
          exact ⟨n, hmem, by simp [h]⟩
        have HAll : Hid (lshN n = true → ((nds f).take (j + 1)).all lshN = true) := Lib.hid (fun h => by
          rw [List.take_add_one, hn, List.all_append, hall]
          simp [h])
        have HBad := Lib.hid hbad
        clear hat hok hmem hn hall hbad HIH
        by_cases hL : n.L.length ≤ 64
        · have tL : ¬ ((64 : Int) < (n.L.length : Int)) := by omega
          cases hlb : lsh n.body with
          | false =>
            rw [hlb] at HB
            have hrt : r = true := HBad.out (by simp [lshN, hlb])
            subst hrt
            go_wp2_with (first | (go_at_call 17; (with_reducible refine HB.out.mono ?_); rintro e w1 ⟨rfl, rfl⟩))
            go_ret
            exact ⟨rfl, rfl⟩
          | true =>
            rw [hlb] at HB
            cases hle : lsh n.els with
            | false =>
              rw [hle] at HE
              have hrt : r = true := HBad.out (by simp [lshN, hle])
              subst hrt
              go_wp2_with (first | (go_at_call 17; (with_reducible refine HB.out.mono ?_); rintro e w1 ⟨rfl, rfl⟩) | (go_at_call 17; (with_reducible refine HE.out.mono ?_); rintro e w1 ⟨rfl, rfl⟩))
              go_ret
              exact ⟨rfl, rfl⟩
            | true =>
              rw [hle] at HE
              have hs := HAll.out (by simp [lshN, hL, hlb, hle])
              have HS := Lib.hid hs
              clear hs
              go_wp2_with (first | (go_at_call 17; (with_reducible refine HB.out.mono ?_); rintro e w1 ⟨rfl, rfl⟩) | (go_at_call 17; (with_reducible refine HE.out.mono ?_); rintro e w1 ⟨rfl, rfl⟩))
              go_round
              case rel => exact ⟨j + 1, by omega, by go_num, HS.out⟩
              case measure => simp [intOf]; omega
        · have tL : (64 : Int) < (n.L.length : Int) := by omega
          have hrt : r = true := HBad.out (by simp [lshN, hL])
          subst hrt
          go_wp2_with fail
          go_ret
          exact ⟨rfl, rfl⟩
      · have hT := List.take_of_length_le (l := nds f) (i := j) (by unfold len at *; omega)
        rw [hT, ← lsh_nds] at hall
        have hrf : r = false := by rw [HRR.out, hall]; rfl
        subst hrf
        go_wp2_with fail
        go_ret
        exact ⟨rfl, rfl⟩
end Go.Proofs.YtbhniddgkdldlaaGreatDoor
