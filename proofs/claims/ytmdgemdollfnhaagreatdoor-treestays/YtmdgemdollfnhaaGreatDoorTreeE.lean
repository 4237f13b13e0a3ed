/- Contracts of tree.countedFit, tree.mayBe, tree.all of instructions, tree.May. -/
import Derived.Test.YtmdgemdollfnhaaGreatDoorTreeD
namespace Go.Proofs.YtmdgemdollfnhaaGreatDoor
open Go.RowKit Trx

theorem keep9 {w w' : World} {b : Nat} {a0 a1 a2 a3 a4 a5 a6 a7 a8 : Value} (hb : Below w.heap.size w w') (k0 : w.cell? ⟨b, 0, none⟩ = some a0) (k1 : w.cell? ⟨b, 1, none⟩ = some a1) (k2 : w.cell? ⟨b, 2, none⟩ = some a2) (k3 : w.cell? ⟨b, 3, none⟩ = some a3)
    (k4 : w.cell? ⟨b, 4, none⟩ = some a4) (k5 : w.cell? ⟨b, 5, none⟩ = some a5) (k6 : w.cell? ⟨b, 6, none⟩ = some a6) (k7 : w.cell? ⟨b, 7, none⟩ = some a7) (k8 : w.cell? ⟨b, 8, none⟩ = some a8) :
    b < w'.heap.size ∧ w'.cell? ⟨b, 0, none⟩ = some a0 ∧ w'.cell? ⟨b, 1, none⟩ = some a1 ∧ w'.cell? ⟨b, 2, none⟩ = some a2 ∧ w'.cell? ⟨b, 3, none⟩ = some a3 ∧ w'.cell? ⟨b, 4, none⟩ = some a4 ∧ w'.cell? ⟨b, 5, none⟩ = some a5 ∧
    w'.cell? ⟨b, 6, none⟩ = some a6 ∧ w'.cell? ⟨b, 7, none⟩ = some a7 ∧ w'.cell? ⟨b, 8, none⟩ = some a8 :=
  ⟨Nat.lt_of_lt_of_le (World.block_lt_of_cell? _ _ k0) hb.size, cell_later k0 hb, cell_later k1 hb, cell_later k2 hb, cell_later k3 hb, cell_later k4 hb, cell_later k5 hb, cell_later k6 hb, cell_later k7 hb, cell_later k8 hb⟩
/-- a new block of nine cells and one behind it. -/
theorem nineC {w0 w : World} {a0 a1 a2 a3 a4 a5 a6 a7 a8 : Value} {t : TypeId} {o : Obj} (h : Below ((w0.alloc (.cells #[a0, a1, a2, a3, a4, a5, a6, a7, a8] t)).alloc o).heap.size ((w0.alloc (.cells #[a0, a1, a2, a3, a4, a5, a6, a7, a8] t)).alloc o) w) :
    (w0.heap.size < w.heap.size) ∧ (w.cell? ⟨w0.heap.size, 7, none⟩ = some a7) ∧ Below w0.heap.size w0 w := by
  have h1 : Below (w0.alloc (.cells #[a0, a1, a2, a3, a4, a5, a6, a7, a8] t)).heap.size (w0.alloc (.cells #[a0, a1, a2, a3, a4, a5, a6, a7, a8] t)) w := ((Below.refl _ _).alloc (Nat.le_refl _) o).trans (h.mono (by simp))
  obtain ⟨h2, -, -, -, -, -, -, -, k7, -, -, h3⟩ := nineB h1
  exact ⟨h2, k7, h3⟩

def cfB (k op g v t a b : Int) (L : List Int) (mb me : Bool) : Bool :=
  if k = 2 then isRes t && mb && me else if k = 10 then (g == 2 || decide (v ≤ 4294967295)) else if op = 14 then decide (0 < L.length) && L.all num32 else num32 a && num32 b

set_option maxHeartbeats 8000000 in
set_option maxRecDepth 100000 in
theorem countedFit_any (op a b v t : Int) (AL Ab Ae : Option Addr) (L : List Int) (cL lb cb le ce : Nat) (he : Bool) (y : Int) (nm : ByteArray) (k : Int) (At : Option Addr) (lt ct : Nat) (g z : Int) (s mb me : Bool) (w : World)
    (ha : inI a) (hb : inI b) (hL : ∀ z ∈ L, inI z) (sL : Sl w w.heap.size AL (n64s L)) (mL : L.length ≤ maxLen)
    (HB : ∀ w', Below w.heap.size w w' → Calls Tryz.prog 12 #[.slice Ab lb cb] w' fun e w'' => e = .returned (.bool mb) ∧ Below w'.heap.size w' w'')
    (HE : ∀ w', Below w.heap.size w w' → Calls Tryz.prog 12 #[.slice Ae le ce] w' fun e w'' => e = .returned (.bool me) ∧ Below w'.heap.size w' w'') :
    Calls Tryz.prog 70 #[insV op a b v t AL Ab Ae L.length cL lb cb le ce he, opA y nm k At lt ct g z s] w fun e w' => e = .returned (.bool (cfB k op g v t a b L mb me)) ∧ Below w.heap.size w w' := by
  have HB := Lib.hid HB
  have HE := Lib.hid HE
  have HL := Lib.hid (fun w' (h : Below w.heap.size w w') => allInt_any L AL cL w' hL ((sL.below h).more h.size) mL)
  have HR := Lib.hid (fun w => isResult_any t w)
  have HA := Lib.hid (fun w => isNumber_any a w ha)
  have HBn := Lib.hid (fun w => isNumber_any b w hb)
  unfold insV opA
  clear hL sL ha hb
  unfold maxLen at mL
  by_cases k2 : k = 2
  · subst k2
    rw [show cfB 2 op g v t a b L mb me = (isRes t && mb && me) from rfl]
    cases hr : isRes t
    · rw [hr] at HR
      clear hr
      go_enter Tryz.func70, Tryz.ntmps70
      go_wp2_with (go_at_call 76; refine (HR.out _).mono ?_; rintro e w' ⟨rfl, rfl⟩)
      go_ret
      exact ⟨by simp, ((Below.refl _ _).alloc (Nat.le_refl _) _).alloc (by simp) _⟩
    · rw [hr] at HR
      clear hr
      cases mb
      · go_enter Tryz.func70, Tryz.ntmps70
        go_wp2_with (first
          | (go_at_call 76; refine (HR.out _).mono ?_; rintro e w' ⟨rfl, rfl⟩)
          | (go_at_call 12; ((with_reducible refine (HB.out _ (((Below.refl _ _).alloc (Nat.le_refl _) _).alloc (by simp) _)).mono ?_); rintro e w1 ⟨rfl, hb1⟩; obtain ⟨hl, k7, hw⟩ := nineC hb1; clear hb1)))
        go_ret
        exact ⟨by simp, hw⟩
      · go_enter Tryz.func70, Tryz.ntmps70
        go_wp2_with (first
          | (go_at_call 76; refine (HR.out _).mono ?_; rintro e w' ⟨rfl, rfl⟩)
          | (go_at_call 12; ((with_reducible refine (HB.out _ (((Below.refl _ _).alloc (Nat.le_refl _) _).alloc (by simp) _)).mono ?_); rintro e w1 ⟨rfl, hb1⟩; obtain ⟨hl, k7, hw⟩ := nineC hb1; clear hb1))
          | (go_at_call 12; ((with_reducible refine (HE.out _ hw).mono ?_); rintro e w2 ⟨rfl, hb2⟩; have hw2 := hw.trans (hb2.mono hw.size); clear hb2)))
        go_ret
        exact ⟨by simp, hw2⟩
  have k2' : (k == 2) = false := by simpa using k2
  by_cases k10 : k = 10
  · subst k10
    rw [show cfB 10 op g v t a b L mb me = (g == 2 || decide (v ≤ 4294967295)) from rfl]
    clear k2 k2'
    cases hg : g == 2
    all_goals
      go_enter Tryz.func70, Tryz.ntmps70
      go_wp2_with fail
      go_ret
      exact ⟨by simp, ((Below.refl _ _).alloc (Nat.le_refl _) _).alloc (by simp) _⟩
  have k10' : (k == 10) = false := by simpa using k10
  by_cases o14 : op = 14
  · subst o14
    rw [show cfB k 14 g v t a b L mb me = (decide (0 < L.length) && L.all num32) by simp [cfB, k2, k10]]
    clear k2 k10
    by_cases hl : 0 < L.length
    · have tl : decide (0 < L.length) = true := by simpa using hl
      rw [tl]
      go_enter Tryz.func70, Tryz.ntmps70
      go_wp2_with (go_at_call 77; refine (HL.out _ (((Below.refl _ _).alloc (Nat.le_refl _) _).alloc (by simp) _)).mono ?_; rintro e w' ⟨rfl, rfl⟩)
      go_ret
      exact ⟨by simp, ((Below.refl _ _).alloc (Nat.le_refl _) _).alloc (by simp) _⟩
    · have tl : decide (0 < L.length) = false := by simpa using hl
      rw [tl]
      go_enter Tryz.func70, Tryz.ntmps70
      go_wp2_with fail
      go_ret
      exact ⟨by simp, ((Below.refl _ _).alloc (Nat.le_refl _) _).alloc (by simp) _⟩
  have o14' : (op == 14) = false := by simpa using o14
  rw [show cfB k op g v t a b L mb me = (num32 a && num32 b) by simp [cfB, k2, k10, o14]]
  clear k2 k10 o14
  cases hn : num32 a
  all_goals
    rw [hn] at HA
    clear hn
    go_enter Tryz.func70, Tryz.ntmps70
    go_wp2_with (first
      | (go_at_call 78; ((with_reducible refine (HA.out _).mono ?_); rintro e w' ⟨rfl, rfl⟩))
      | (go_at_call 78; ((with_reducible refine (HBn.out _).mono ?_); rintro e w' ⟨rfl, rfl⟩)))
    go_ret
    exact ⟨by simp, ((Below.refl _ _).alloc (Nat.le_refl _) _).alloc (by simp) _⟩

end Go.Proofs.YtmdgemdollfnhaaGreatDoor
