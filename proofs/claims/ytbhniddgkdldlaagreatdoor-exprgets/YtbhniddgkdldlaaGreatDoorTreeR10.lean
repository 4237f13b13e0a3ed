/- Contracts of the reference's Ints and SameIns of two that are the same. -/
import Derived.Test.YtbhniddgkdldlaaGreatDoorTreeCp0
set_option linter.unusedVariables false
set_option linter.unusedSimpArgs false
namespace Go.Proofs.YtbhniddgkdldlaaGreatDoor
open Go.RowKit Trx

theorem two_box {w w1 : World} {c d : Array Value} {t u : TypeId} (h : Below ((w.alloc (.cells c t)).alloc (.cells d u)).heap.size ((w.alloc (.cells c t)).alloc (.cells d u)) w1) :
    w.heap.size + 1 < w1.heap.size ∧ (∀ i, w1.cell? ⟨w.heap.size, i, none⟩ = c[i]?) ∧ (∀ i, w1.cell? ⟨w.heap.size + 1, i, none⟩ = d[i]?) ∧ Below w.heap.size w w1 := by
  refine ⟨by have := h.size; simp at this; omega, fun i => ?_, fun i => ?_, (((Below.refl _ _).alloc (Nat.le_refl _) _).alloc (by simp) _).trans (h.mono (by simp; omega))⟩
  · rw [h.cell (p := ⟨w.heap.size, i, none⟩) (by simp; omega), World.cell?_alloc_past _ _ _ (by simp), World.cell?_alloc_at _ _ _ _ rfl]
  · exact (h.cell (p := ⟨w.heap.size + 1, i, none⟩) (by simp)).trans (World.cell?_alloc_at _ _ _ _ (by simp))

/-- two boxes behind a world, and what was there stays. -/
def Bxs (w : World) (c d : Array Value) (w1 : World) : Prop := w.heap.size + 1 < w1.heap.size ∧ (∀ i, w1.cell? ⟨w.heap.size, i, none⟩ = c[i]?) ∧ (∀ i, w1.cell? ⟨w.heap.size + 1, i, none⟩ = d[i]?) ∧ Below w.heap.size w w1
theorem Bxs.bel {w : World} {xs ys : Array Value} {w' : World} (h : Bxs w xs ys w') : Below w.heap.size w w' := h.2.2.2
theorem Bxs.next {w w1 w2 : World} {c d : Array Value} (h : Bxs w c d w1) (hb : Below w1.heap.size w1 w2) : Bxs w c d w2 := by
  obtain ⟨h1, h2, h3, h4⟩ := h
  exact ⟨Nat.lt_of_lt_of_le h1 hb.size, fun i => (hb.cell (p := ⟨w.heap.size, i, none⟩) (Nat.lt_of_succ_lt h1)).trans (h2 i), fun i => (hb.cell (p := ⟨w.heap.size + 1, i, none⟩) h1).trans (h3 i), h4.trans (hb.mono h4.size)⟩
theorem bel_drewN (w : World) (n : Nat) : Below w.heap.size w (w.drewN n) := ⟨rfl, rfl, rfl, Nat.le_refl _, fun _ _ => rfl⟩

set_option maxHeartbeats 8000000 in
set_option maxRecDepth 100000 in
/-- two lists of numbers that are the same. -/
theorem Ints_same (zs : List Int) (A1 A2 : Option Addr) (c1 c2 : Nat) (w : World) (h1 : Sl w w.heap.size A1 (n64s zs)) (h2 : Sl w w.heap.size A2 (n64s zs)) (hm : zs.length ≤ maxLen) :
    Calls Tryz.prog 28 #[.slice A1 zs.length c1, .slice A2 zs.length c2] w fun e w' => e = .returned (.bool true) ∧ ∃ n, w' = w.drewN n := by
  unfold maxLen at hm
  have H1 := Lib.hid h1
  have H2 := Lib.hid h2
  clear h1 h2
  go_enter Tryz.func28, Tryz.ntmps28
  go_wp2_with fail
  go_loopw [5] (fun i wr => ∃ (j n : Nat), j ≤ zs.length ∧ i = .int .i64 j ∧ wr = w.drewN n) (fun i _ => zs.length - (intOf i).toNat)
  case atStart => exact ⟨0, 0, by omega, rfl, rfl⟩
  case round =>
    obtain ⟨j, n, hj, rfl, rfl⟩ := hrel
    by_cases hlt : j < zs.length
    · have hne : n64s zs ≠ [] := by intro e; have := congrArg List.length e; rw [n64s_length, List.length_nil] at this; omega
      obtain ⟨b1, o1, rfl, hb1, hc1⟩ := H1.out hne
      obtain ⟨b2, o2, rfl, hb2, hc2⟩ := H2.out hne
      have hg : (n64s zs)[j]? = some (.int .i64 zs[j]) := by simp [n64s, hlt]
      have q1 : (w.drewN n).cell? ⟨b1, o1 + j, none⟩ = some (.int .i64 zs[j]) := (hc1 j (by simpa using hlt)).trans hg
      have q2 : (w.drewN n).cell? ⟨b2, o2 + j, none⟩ = some (.int .i64 zs[j]) := (hc2 j (by simpa using hlt)).trans hg
      obtain ⟨z, hz⟩ : ∃ z, z = zs[j] := ⟨_, rfl⟩
      rw [← hz] at q1 q2
      have tz : (z != z) = false := by simp
      obtain ⟨w0, hw0⟩ : ∃ w0, w0 = w.drewN n := ⟨_, rfl⟩
      have hb1' : b1 < w0.heap.size := by rw [hw0]; exact hb1
      have hb2' : b2 < w0.heap.size := by rw [hw0]; exact hb2
      rw [← hw0] at q1 q2 ⊢
      have HW := Lib.hid hw0
      clear hz hc1 hc2 hg hne hw0
      go_wp2_with fail
      go_quiet (fail)
      go_wp2_with fail
      go_roundw
      case rel => exact ⟨j + 1, n + nq, by omega, by go_num, by rw [HW.out, World.drewN_drewN]⟩
      case measure => simp [intOf]; omega
    · go_wp2_with fail
      go_ret
      exact ⟨rfl, n, rfl⟩
theorem Ints_below (zs : List Int) (A1 A2 : Option Addr) (c1 c2 : Nat) (w : World) (h1 : Sl w w.heap.size A1 (n64s zs)) (h2 : Sl w w.heap.size A2 (n64s zs)) (hm : zs.length ≤ maxLen) :
    Calls Tryz.prog 28 #[.slice A1 zs.length c1, .slice A2 zs.length c2] w fun e w' => e = .returned (.bool true) ∧ Below w.heap.size w w' := by
  refine (Ints_same zs A1 A2 c1 c2 w h1 h2 hm).mono ?_
  rintro e w' ⟨rfl, n, rfl⟩
  exact ⟨rfl, bel_drewN _ _⟩
set_option maxHeartbeats 8000000 in
set_option maxRecDepth 100000 in
theorem SameIns_same (k : Nat) : ∀ (f : Fo) (A1 A2 : Option Addr) (c1 c2 : Nat) (w : World), cnt f ≤ k → RdS w w.heap.size A1 f → RdS w w.heap.size A2 f → len f ≤ maxLen →
    Calls Tryz.prog 16 #[.slice A1 (len f) c1, .slice A2 (len f) c2] w fun e w' => e = .returned (.bool true) ∧ Below w.heap.size w w' := by
  induction k using Nat.strongRecOn with
  | ind k ih =>
    intro f A1 A2 c1 c2 w hk h1 h2 hm
    unfold maxLen at hm
    have H1 := Lib.hid h1
    have H2 := Lib.hid h2
    have HIH := Lib.hid ih
    clear ih h1 h2
    have tl : ((len f : Int) != (len f : Int)) = false := by simp
    go_enter Tryz.func16, Tryz.ntmps16
    go_wp2_with fail
    go_loopw [5] (fun i wr => ∃ j : Nat, j ≤ len f ∧ i = .int .i64 j ∧ Below w.heap.size w wr) (fun i _ => len f - (intOf i).toNat)
    case atStart => exact ⟨0, by omega, rfl, Below.refl _ _⟩
    case round =>
      obtain ⟨j, hj, rfl, hbel⟩ := hrel
      by_cases hlt : j < len f
      · obtain ⟨b1, o1, n, p1, rfl, hn, at1⟩ := H1.out.at_ hlt
        obtain ⟨b2, o2, n', p2, rfl, hn', at2⟩ := H2.out.at_ hlt
        have hnn : n = n' := Option.some.inj (hn.symm.trans hn')
        subst hnn
        obtain ⟨q0, q1, q2, q3, q4, q5, q6, q7, q8⟩ := (at1.below hbel).nine
        obtain ⟨r0, r1, r2, r3, r4, r5, r6, r7, r8⟩ := (at2.below hbel).nine
        have hb1 := Nat.lt_of_lt_of_le at1.lt hbel.size
        have hb2 := Nat.lt_of_lt_of_le at2.lt hbel.size
        have hmem : n ∈ nds f := List.mem_of_getElem? hn
        have ok1 := at1.ok
        have ok2 := at2.ok
        have HI := Lib.hid (fun w' (hb : Below w.heap.size w w') => Ints_below n.L p1.AL p2.AL p1.cL p2.cL w' ((ok1.num.sL.below hb).more hb.size) ((ok2.num.sL.below hb).more hb.size) (Nat.le_trans ok1.num.hL ok1.num.cL))
        have HB := Lib.hid (fun w' (hb : Below w.heap.size w w') => HIH.out _ (Nat.lt_of_lt_of_le (cnt_mem hmem).1 hk) n.body p1.Ab p2.Ab p1.cb p2.cb w' (Nat.le_refl _) ((ok1.body.below hb).more hb.size) ((ok2.body.below hb).more hb.size) (Nat.le_trans ok1.num.hb ok1.num.cb))
        have HE := Lib.hid (fun w' (hb : Below w.heap.size w w') => HIH.out _ (Nat.lt_of_lt_of_le (cnt_mem hmem).2 hk) n.els p1.Ae p2.Ae p1.ce p2.ce w' (Nat.le_refl _) ((ok1.els.below hb).more hb.size) ((ok2.els.below hb).more hb.size) (Nat.le_trans ok1.num.he ok1.num.ce))
        have HBel := Lib.hid hbel
        have hsz := hbel.size
        clear at1 at2 hbel hn hn' hmem ok1 ok2 HIH
        have t0 : (n.op != n.op) = false := by simp
        have t1 : (n.a != n.a) = false := by simp
        have t2 : (n.b != n.b) = false := by simp
        have t3 : (n.v != n.v) = false := by simp
        have t4 : (n.t != n.t) = false := by simp
        have t8 : (n.he != n.he) = false := by simp
        go_wp2_with (first
          | (go_at_call 28; ((with_reducible refine (HI.out _ ((HBel.out.alloc hsz _).alloc (by simp; omega) _)).mono ?_); rintro e w1 ⟨rfl, hb1⟩; have HKw1 := Lib.hid (show Bxs wr #[.int .i64 n.op, .int .i64 n.a, .int .i64 n.b, .int .u64 n.v, .int .i64 n.t, .slice p1.AL n.L.length p1.cL, .slice p1.Ab (len n.body) p1.cb, .slice p1.Ae (len n.els) p1.ce, .bool n.he] #[.int .i64 n.op, .int .i64 n.a, .int .i64 n.b, .int .u64 n.v, .int .i64 n.t, .slice p2.AL n.L.length p2.cL, .slice p2.Ab (len n.body) p2.cb, .slice p2.Ae (len n.els) p2.ce, .bool n.he] w1 from two_box hb1); have x6 : w1.cell? ⟨wr.heap.size, 6, none⟩ = some (.slice p1.Ab (len n.body) p1.cb) := HKw1.out.2.1 6; have y6 : w1.cell? ⟨wr.heap.size + 1, 6, none⟩ = some (.slice p2.Ab (len n.body) p2.cb) := HKw1.out.2.2.1 6; have x7 : w1.cell? ⟨wr.heap.size, 7, none⟩ = some (.slice p1.Ae (len n.els) p1.ce) := HKw1.out.2.1 7; have y7 : w1.cell? ⟨wr.heap.size + 1, 7, none⟩ = some (.slice p2.Ae (len n.els) p2.ce) := HKw1.out.2.2.1 7; have hlw1 := HKw1.out.1; have HW1 := Lib.hid (HBel.out.trans (HKw1.out.bel.mono hsz)); clear hb1))
          | (go_at_call 16; ((with_reducible refine (HB.out _ HW1.out).mono ?_); rintro e w2 ⟨rfl, hb2⟩; have HKw2 := Lib.hid (HKw1.out.next hb2); clear x6 y6 x7 y7; have x7 : w2.cell? ⟨wr.heap.size, 7, none⟩ = some (.slice p1.Ae (len n.els) p1.ce) := HKw2.out.2.1 7; have y7 : w2.cell? ⟨wr.heap.size + 1, 7, none⟩ = some (.slice p2.Ae (len n.els) p2.ce) := HKw2.out.2.2.1 7; have hlw2 := HKw2.out.1; have HW2 := Lib.hid (HBel.out.trans (HKw2.out.bel.mono hsz)); clear hb2))
          | (go_at_call 16; ((with_reducible refine (HE.out _ HW2.out).mono ?_); rintro e w3 ⟨rfl, hb3⟩; have HW3 := Lib.hid (HW2.out.trans (hb3.mono HW2.out.size)); clear hb3)))
        go_roundw
        case rel => exact ⟨j + 1, by omega, by go_num, HW3.out⟩
        case measure => simp [intOf]; omega
      · have HB := Lib.hid hbel
        clear hbel
        go_wp2_with fail
        go_ret
        exact ⟨rfl, HB.out⟩
end Go.Proofs.YtbhniddgkdldlaaGreatDoor
