/- Contracts of slices.Equal of numbers and bytes.Equal: whether two lists are the same. -/
import Derived.Test.YtmdgemdollfnhaaGreatDoorTreeCp
namespace Go.Proofs.YtmdgemdollfnhaaGreatDoor
open Go.RowKit Trx

/-- a call that tells whether something is so. -/
def Tells (p : Prop) (w : World) (e : Ending) (w' : World) : Prop := (∃ b : Bool, e = .returned (.bool b) ∧ (b = true ↔ p)) ∧ Below w.heap.size w w'
theorem Tells.mk_ {p : Prop} {w w' : World} (b : Bool) (h : b = true ↔ p) (hb : Below w.heap.size w w') : Tells p w (.returned (.bool b)) w' := ⟨⟨b, rfl, h⟩, hb⟩
theorem below_drewN (w : World) (n : Nat) : Below w.heap.size w (w.drewN n) := ⟨rfl, rfl, rfl, Nat.le_refl _, fun _ _ => rfl⟩

set_option maxHeartbeats 8000000 in
set_option maxRecDepth 100000 in
theorem eqInt_any (x y : IL) (w : World) (hx : x.ok w w.heap.size) (hy : y.ok w w.heap.size) :
    Calls Tryz.prog 63 #[.slice x.A x.zs.length x.c, .slice y.A y.zs.length y.c] w (Tells (x.zs = y.zs) w) := by
  have hm1 := Nat.le_trans hx.le hx.c
  have hm2 := Nat.le_trans hy.le hy.c
  unfold maxLen at hm1 hm2
  have H1 := Lib.hid hx.sl
  have H2 := Lib.hid hy.sl
  clear hx hy
  by_cases hl : x.zs.length = y.zs.length
  · rw [← hl]
    have tl : ((x.zs.length : Int) != (x.zs.length : Int)) = false := by simp
    have HL := Lib.hid hl
    clear hl
    go_enter Tryz.func63, Tryz.ntmps63
    go_wp2_with fail
    go_loopw [13] (fun i wr => ∃ (j n : Nat), j ≤ x.zs.length ∧ i = .int .i64 j ∧ wr = w.drewN n ∧ x.zs.take j = y.zs.take j) (fun i _ => x.zs.length - (intOf i).toNat)
    case atStart => exact ⟨0, 0, by omega, rfl, rfl, by simp⟩
    case round =>
      obtain ⟨j, n, hj, rfl, rfl, heq⟩ := hrel
      have HE := Lib.hid heq
      clear heq
      by_cases hlt : j < x.zs.length
      · have hlt2 : j < y.zs.length := by have := HL.out; omega
        obtain ⟨b1, o1, hA1, hb1, hc1⟩ := H1.out (by intro e; have := congrArg List.length e; rw [n64s_length, List.length_nil] at this; omega)
        obtain ⟨b2, o2, hA2, hb2, hc2⟩ := H2.out (by intro e; have := congrArg List.length e; rw [n64s_length, List.length_nil] at this; omega)
        have hg1 : (n64s x.zs)[j]? = some (.int .i64 x.zs[j]) := by simp [n64s, hlt]
        have hg2 : (n64s y.zs)[j]? = some (.int .i64 y.zs[j]) := by simp [n64s, hlt2]
        have q1 : (w.drewN n).cell? ⟨b1, o1 + j, none⟩ = some (.int .i64 x.zs[j]) := (hc1 j (by simpa using hlt)).trans hg1
        have q2 : (w.drewN n).cell? ⟨b2, o2 + j, none⟩ = some (.int .i64 y.zs[j]) := (hc2 j (by simpa using hlt2)).trans hg2
        have hs1 : x.zs.take (j + 1) = x.zs.take j ++ [x.zs[j]] := by rw [List.take_add_one, List.getElem?_eq_getElem hlt]; rfl
        have hs2 : y.zs.take (j + 1) = y.zs.take j ++ [y.zs[j]] := by rw [List.take_add_one, List.getElem?_eq_getElem hlt2]; rfl
        have hne : x.zs[j] ≠ y.zs[j] → x.zs ≠ y.zs := fun h e => h (by simp [e])
        obtain ⟨u, hu⟩ : ∃ u, u = x.zs[j] := ⟨_, rfl⟩
        obtain ⟨v, hv⟩ : ∃ v, v = y.zs[j] := ⟨_, rfl⟩
        rw [← hu] at q1 hs1 hne
        rw [← hv] at q2 hs2 hne
        obtain ⟨w0, hw0⟩ : ∃ w0, w0 = w.drewN n := ⟨_, rfl⟩
        have hb1' : b1 < w0.heap.size := by rw [hw0]; exact hb1
        have hb2' : b2 < w0.heap.size := by rw [hw0]; exact hb2
        rw [← hw0] at q1 q2 ⊢
        rw [hA1, hA2]
        have HW := Lib.hid hw0
        have HS1 := Lib.hid hs1
        have HS2 := Lib.hid hs2
        have HNE := Lib.hid hne
        clear hu hv hc1 hc2 hg1 hg2 hw0 hs1 hs2 hne hA1 hA2
        by_cases huv : u = v
        · subst huv
          have tz : (u != u) = false := by simp
          go_wp2_with fail
          go_quiet (fail)
          go_wp2_with fail
          go_roundw
          case rel => exact ⟨j + 1, n + nq, by omega, by go_num, by rw [HW.out, World.drewN_drewN], by rw [HS1.out, HS2.out, HE.out]⟩
          case measure => simp [intOf]; omega
        · have tz : (u != v) = true := by simpa using huv
          have HUV := Lib.hid huv
          clear huv
          go_wp2_with fail
          go_quiet (fail)
          go_wp2_with fail
          go_ret
          refine Tells.mk_ _ (by simp; exact HNE.out HUV.out) ?_
          rw [HW.out, World.drewN_drewN]; exact below_drewN _ _
      · have h1 := List.take_of_length_le (l := x.zs) (i := j) (by omega)
        have h2 := List.take_of_length_le (l := y.zs) (i := j) (by have := HL.out; omega)
        have HF := Lib.hid (show x.zs = y.zs by rw [← h1, ← h2]; exact HE.out)
        clear h1 h2
        go_wp2_with fail
        go_ret
        exact Tells.mk_ _ (by simp; exact HF.out) (below_drewN _ _)
  · have tl : ((x.zs.length : Int) != (y.zs.length : Int)) = true := by simp; omega
    have hne : x.zs ≠ y.zs := fun e => hl (by rw [e])
    have HNE := Lib.hid hne
    clear hne
    go_enter Tryz.func63, Tryz.ntmps63
    go_wp2_with fail
    go_ret
    exact Tells.mk_ _ (by simp; exact HNE.out) (Below.refl _ _)
end Go.Proofs.YtmdgemdollfnhaaGreatDoor
