/- The walk of TreeMay. -/
import Derived.Test.YtmdgemdollfnhaaDoorTreeH
import Derived.Test.YtmdgemdollfnhaaDoorTreeI
namespace Go.Proofs.YtmdgemdollfnhaaDoor
open Go.RowKit Trx

set_option maxHeartbeats 4000000 in
set_option maxRecDepth 100000 in
theorem walk_TreeMay (A : Option Addr) (c : Nat) (f : Fo) (w : World) (hr : RdS w w.heap.size A f) (hl : len f ≤ c) (hm : c ≤ maxLen) (hN : Nam w) :
    Calls Tryd.prog 3 #[.slice A (len f) c] w fun e w' => e = .returned (.bool true) ∧ Below w.heap.size w w' := by
  have hml : len f ≤ maxLen := Nat.le_trans hl hm
  have HU := Lib.hid (up_any w hN)
  have HRC := Lib.hid (fun w' (h : Below w.heap.size w w') => refCount_any _ f A c w' (Nat.le_refl _) ((hr.below h).more h.size) hml)
  have HC := Lib.hid (fun w' (h : Below w.heap.size w w') => Count_any _ f A c w' (Nat.le_refl _) (hN.below h) ((hr.below h).more h.size) hml)
  have HM := Lib.hid (fun w' (h : Below w.heap.size w w') => May_any _ f A c w' (Nat.le_refl _) (hN.below h) ((hr.below h).more h.size) hml)
  have HRM := Lib.hid (fun w' (h : Below w.heap.size w w') => refMay_any _ f A c w' (Nat.le_refl _) ((hr.below h).more h.size) hml)
  generalize wrap64 (cnt f : Int) = n at HRC HC
  generalize dp f = d at HRC HC
  generalize may f = m at HM HRM
  clear hr hN
  unfold maxLen at hm hml
  by_cases hbig : n > 2000
  · go_enter Tryd.func3, Tryd.ntmps3
    go_wp2_with (first
      | (go_at_call 7; refine HU.out.mono ?_; rintro e w1 ⟨rfl, hb1⟩; have HB1 := Lib.hid hb1; clear hb1)
      | (go_at_call 8; refine (HRC.out _ HB1.out).mono ?_; rintro e w2 ⟨rfl, rfl⟩))
    go_ret
    exact ⟨rfl, HB1.out⟩
  · have tn : (n == n) = true := by simp
    have td : (d == d) = true := by simp
    cases m
    all_goals
      go_enter Tryd.func3, Tryd.ntmps3
      go_wp2_with (first
        | (go_at_call 7; refine HU.out.mono ?_; rintro e w1 ⟨rfl, hb1⟩; have HB1 := Lib.hid hb1; clear hb1)
        | (go_at_call 8; refine (HRC.out _ HB1.out).mono ?_; rintro e w2 ⟨rfl, rfl⟩)
        | (go_at_call 9; refine (HC.out _ HB1.out).mono ?_; rintro e w3 ⟨rfl, hb3⟩; have HB3 := Lib.hid (HB1.out.trans (hb3.mono HB1.out.size)); clear hb3)
        | (go_at_call 10; refine (HM.out _ HB3.out).mono ?_; rintro e w4 ⟨rfl, hb4⟩; have HB4 := Lib.hid (HB3.out.trans (hb4.mono HB3.out.size)); clear hb4)
        | (go_at_call 11; refine (HRM.out _ HB4.out).mono ?_; rintro e w5 ⟨rfl, hb5⟩; have HB5 := Lib.hid (HB4.out.trans (hb5.mono HB4.out.size)); clear hb5))
      go_ret
      exact ⟨rfl, HB5.out⟩
end Go.Proofs.YtmdgemdollfnhaaDoor
