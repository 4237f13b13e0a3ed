/- The walk of TreeParts. -/
import Derived.Test.YtmdgemdollfnhaaDoorTreeI1
import Derived.Test.YtmdgemdollfnhaaDoorTreeI2
namespace Go.Proofs.YtmdgemdollfnhaaDoor
open Go.RowKit Trx

theorem place_of (l : Nat) (hl : l ≤ 9223372036854775807) (x : Int) (h0 : 0 ≤ x) (h1 : x ≤ 9223372036854775807) :
    (wrap64 ((l : Int) + 1) == 0) = false ∧ ∃ k : Nat, k ≤ l ∧ x.tmod (wrap64 ((l : Int) + 1)) = (k : Int) := by
  by_cases h : l = 9223372036854775807
  · subst h
    have e : wrap64 (((9223372036854775807 : Nat) : Int) + 1) = -9223372036854775808 := by unfold wrap64; omega
    rw [e]
    refine ⟨by decide, x.toNat, by omega, ?_⟩
    rw [Int.tmod_neg, Int.tmod_eq_of_lt h0 (by omega)]
    omega
  · have e : wrap64 ((l : Int) + 1) = (l : Int) + 1 := by unfold wrap64; omega
    rw [e]
    refine ⟨by simp; omega, (x % ((l : Int) + 1)).toNat, ?_, ?_⟩
    · have := Int.emod_lt_of_pos x (show (0 : Int) < (l : Int) + 1 by omega)
      omega
    · have := Int.emod_nonneg x (show ((l : Int) + 1) ≠ 0 by omega)
      rw [Int.tmod_eq_emod_of_nonneg h0]
      omega

set_option maxHeartbeats 4000000 in
set_option maxRecDepth 100000 in
theorem parts_big (A : Option Addr) (c l : Nat) (at_ : Int) (n : Int) (z : Int) (w : World)
    (HU : Calls Tryd.prog 7 #[] w fun e w' => e = .returned (.bool true) ∧ Below w.heap.size w w')
    (HRC : ∀ w', Below w.heap.size w w' → Calls Tryd.prog 8 #[.slice A l c] w' fun e w'' => e = .returned (.tuple #[.int .i64 n, .int .i64 z]) ∧ w' = w'') (hbig : n > 2000) :
    Calls Tryd.prog 5 #[.slice A l c, .int .i64 at_] w fun e w' => e = .returned (.bool true) ∧ Below w.heap.size w w' := by
  have HU := Lib.hid HU
  have HRC := Lib.hid HRC
  go_enter Tryd.func5, Tryd.ntmps5
  go_wp2_with (first
    | (go_at_call 7; refine HU.out.mono ?_; rintro e w1 ⟨rfl, hb1⟩; have HB1 := Lib.hid hb1; clear hb1)
    | (go_at_call 8; refine (HRC.out _ HB1.out).mono ?_; rintro e w2 ⟨rfl, rfl⟩))
  go_ret
  exact ⟨rfl, HB1.out⟩

theorem walk_TreeParts (A : Option Addr) (c : Nat) (f : Fo) (at_ : Int) (w : World) (hr : RdS w w.heap.size A f) (hl : len f ≤ c) (hm : c ≤ maxLen) (hw : (Lit.int .i64 at_).wf = true) (hN : Nam w) :
    Calls Tryd.prog 5 #[.slice A (len f) c, .int .i64 at_] w fun e w' => e = .returned (.bool true) ∧ Below w.heap.size w w' := by
  have ha := inI_of hw
  have hml : len f ≤ maxLen := Nat.le_trans hl hm
  have hx : 0 ≤ (if at_ < 0 then -(at_ + 1) else at_) ∧ (if at_ < 0 then -(at_ + 1) else at_) ≤ 9223372036854775807 := by unfold inI at ha; split <;> omega
  obtain ⟨hz, k, hk, hat⟩ := place_of (len f) (by unfold maxLen at hml; omega) _ hx.1 hx.2
  have HRC := (fun w' (h : Below w.heap.size w w') => refCount_any _ f A c w' (Nat.le_refl _) ((hr.below h).more h.size) hml)
  have HC := (fun w' (h : Below w.heap.size w w') => Count_any _ f A c w' (Nat.le_refl _) (hN.below h) ((hr.below h).more h.size) hml)
  have HM := (fun w' (h : Below w.heap.size w w') => May_any _ f A c w' (Nat.le_refl _) (hN.below h) ((hr.below h).more h.size) hml)
  by_cases hbig : wrap64 (cnt f : Int) > 2000
  · exact parts_big A c (len f) at_ _ _ w (up_any w hN) HRC hbig
  have hl1 : len (ofN ((nds f).take k)) = k := by rw [len_ofN, List.length_take]; exact Nat.min_eq_left hk
  have hl2 : len (ofN ((nds f).drop k)) = len f - k := by rw [len_ofN, List.length_drop]; rfl
  have HC1 := (fun w' (h : Below w.heap.size w w') => Count_any _ (ofN ((nds f).take k)) A c w' (Nat.le_refl _) (hN.below h) (((hr.take k).below h).more h.size) (by rw [hl1]; omega))
  have HM1 := (fun w' (h : Below w.heap.size w w') => May_any _ (ofN ((nds f).take k)) A c w' (Nat.le_refl _) (hN.below h) (((hr.take k).below h).more h.size) (by rw [hl1]; omega))
  have HC2 := (fun w' (h : Below w.heap.size w w') => Count_any _ (ofN ((nds f).drop k)) (if c = k then A else A.map (·.add (k * 9))) (c - k) w' (Nat.le_refl _) (hN.below h) (((hr.drop hl).below h).more h.size) (by rw [hl2]; omega))
  have HM2 := (fun w' (h : Below w.heap.size w w') => May_any _ (ofN ((nds f).drop k)) (if c = k then A else A.map (·.add (k * 9))) (c - k) w' (Nat.le_refl _) (hN.below h) (((hr.drop hl).below h).more h.size) (by rw [hl2]; omega))
  rw [hl1] at HC1 HM1
  rw [hl2] at HC2 HM2
  have hcnt : cnt f = cnt (ofN ((nds f).take k)) + cnt (ofN ((nds f).drop k)) := by rw [← cnt_append, List.take_append_drop, ofN_nds]
  have hdp : dp f = max (dp (ofN ((nds f).take k))) (dp (ofN ((nds f).drop k))) := by rw [← dp_append, List.take_append_drop, ofN_nds]
  have hmay : may f = (may (ofN ((nds f).take k)) && may (ofN ((nds f).drop k))) := by rw [may_ofN, may_ofN, ← List.all_append, List.take_append_drop, may_nds]
  rw [hmay] at HM
  have htw : IntKind.i64.wrap (wrap64 (cnt (ofN ((nds f).take k)) : Int) + wrap64 (cnt (ofN ((nds f).drop k)) : Int)) = wrap64 (cnt f : Int) := by rw [IntWalk.i64_left, wr_parts, hcnt]
  have hcase : (dp (ofN ((nds f).take k)) < dp (ofN ((nds f).drop k)) ∧ (dp f == dp (ofN ((nds f).drop k))) = true) ∨ (¬ dp (ofN ((nds f).take k)) < dp (ofN ((nds f).drop k)) ∧ (dp f == dp (ofN ((nds f).take k))) = true) := by
    rcases Int.lt_or_le (dp (ofN ((nds f).take k))) (dp (ofN ((nds f).drop k))) with h | h
    · left; exact ⟨h, by simp; omega⟩
    · right; exact ⟨by omega, by simp; omega⟩
  have hcase2 : (at_ < 0 ∧ (at_ + 1).tmod (wrap64 ((len f : Int) + 1)) = -(k : Int)) ∨ (¬ at_ < 0 ∧ at_.tmod (wrap64 ((len f : Int) + 1)) = (k : Int)) := by
    rcases Int.lt_or_le at_ 0 with h | h
    · left
      rw [if_pos h, Int.neg_tmod] at hat
      exact ⟨h, by omega⟩
    · right
      rw [if_neg (by omega)] at hat
      exact ⟨by omega, hat⟩
  by_cases hck : c = k
  · have hlc : len f = c := by omega
    subst hck
    rw [if_pos rfl, hlc, Nat.sub_self] at HC2 HM2
    rw [hlc] at HC HM HRC hz hcase2 ⊢
    exact parts_eq A c at_ _ _ _ _ _ _ _ _ w hm ha hz (up_any w hN) HRC HC HC1 HC2 HM HM1 HM2 hbig htw hcase hcase2
  · rw [if_neg hck] at HC2 HM2
    exact parts_ne A c (len f) k at_ _ _ _ _ _ _ _ _ w hl hm ha hck hk hz (up_any w hN) HRC HC HC1 HC2 HM HM1 HM2 hbig htw hcase hcase2
end Go.Proofs.YtmdgemdollfnhaaDoor
