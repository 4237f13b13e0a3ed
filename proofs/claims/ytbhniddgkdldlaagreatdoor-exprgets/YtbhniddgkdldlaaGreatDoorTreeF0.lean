/- Contracts of tree.mayBe, tree.all of instructions, and tree.May. -/
import Derived.Test.YtbhniddgkdldlaaGreatDoorTreeMath20
set_option linter.unusedVariables false
set_option linter.unusedSimpArgs false
namespace Go.Proofs.YtbhniddgkdldlaaGreatDoor
open Go.RowKit Trx

theorem mayN_none (n : Nd) (h : Opx.nm n.op = []) : mayN n = false := by
  simp [mayN, fit, knd, h]
theorem mayN_flt (n : Nd) (h : Opx.flt n.op = true) : mayN n = false := by
  refine mayN_none n ?_
  rcases Classical.em (Opx.nm n.op = []) with h0 | h0
  · exact h0
  · obtain ⟨j, hj, hlt, hne⟩ := isOp_of n.op h0
    have := List.all_eq_true.1 Opx.no_flt j (by simpa using hlt)
    rw [hj] at h
    rw [h] at this
    simp at this
    rw [hj]; exact this
theorem mayN_eq (n : Nd) (hn : Opx.nm n.op ≠ []) (hv : 0 ≤ n.v) :
    (bareB (uA (Opx.kd n.op) n.op n.a) (uB (Opx.kd n.op) n.b) (uV (Opx.kd n.op) n.v) (uT (Opx.kd n.op) n.t) (uL (Opx.kd n.op) n.op n.L.length) (uY (Opx.kd n.op) (len n.body)) (uE (Opx.kd n.op) n.op n.he (len n.els)) (uH (Opx.kd n.op) n.op n.he)
      && cfB (Opx.kd n.op) n.op (Opx.gv n.op) n.v n.t n.a n.b n.L (may n.body) (may n.els)) = mayN n :=
  may_eq n.op n.a n.b n.v n.t n.L (len n.body) (len n.els) _ _ n.he _ _ hn hv (isNil_len _) (isNil_len _) (fun h => by rw [len_zero h]; rfl) (fun h => by rw [len_zero h]; rfl)

theorem below_alloc {w w' : World} {o : Obj} (h : Below (w.alloc o).heap.size (w.alloc o) w') : Below w.heap.size w w' := ((Below.refl _ _).alloc (Nat.le_refl _) o).trans (h.mono (by simp))
theorem keep7 {w w' : World} {b : Nat} {a0 a1 a2 a3 a4 a5 a6 : Value} (hb : Below w.heap.size w w') (k0 : w.cell? ⟨b, 0, none⟩ = some a0) (k1 : w.cell? ⟨b, 1, none⟩ = some a1) (k2 : w.cell? ⟨b, 2, none⟩ = some a2) (k3 : w.cell? ⟨b, 3, none⟩ = some a3)
    (k4 : w.cell? ⟨b, 4, none⟩ = some a4) (k5 : w.cell? ⟨b, 5, none⟩ = some a5) (k6 : w.cell? ⟨b, 6, none⟩ = some a6) :
    b < w'.heap.size ∧ w'.cell? ⟨b, 0, none⟩ = some a0 ∧ w'.cell? ⟨b, 1, none⟩ = some a1 ∧ w'.cell? ⟨b, 2, none⟩ = some a2 ∧ w'.cell? ⟨b, 3, none⟩ = some a3 ∧ w'.cell? ⟨b, 4, none⟩ = some a4 ∧ w'.cell? ⟨b, 5, none⟩ = some a5 ∧ w'.cell? ⟨b, 6, none⟩ = some a6 :=
  ⟨Nat.lt_of_lt_of_le (World.block_lt_of_cell? _ _ k0) hb.size, cell_later k0 hb, cell_later k1 hb, cell_later k2 hb, cell_later k3 hb, cell_later k4 hb, cell_later k5 hb, cell_later k6 hb⟩

set_option maxHeartbeats 8000000 in
set_option maxRecDepth 100000 in
theorem mayBe_any (n : Nd) (p : Pl) (w : World) (hN : Nam w) (hok : NdNum w w.heap.size n p)
    (HB : ∀ w', Below w.heap.size w w' → Calls Tryz.prog 20 #[.slice p.Ab (len n.body) p.cb] w' fun e w'' => e = .returned (.bool (may n.body)) ∧ Below w'.heap.size w' w'')
    (HE : ∀ w', Below w.heap.size w w' → Calls Tryz.prog 20 #[.slice p.Ae (len n.els) p.ce] w' fun e w'' => e = .returned (.bool (may n.els)) ∧ Below w'.heap.size w' w'') :
    Calls Tryz.prog 32 #[.agg #[.int .i64 n.op, .int .i64 n.a, .int .i64 n.b, .int .u64 n.v, .int .i64 n.t, .slice p.AL n.L.length p.cL, .slice p.Ab (len n.body) p.cb, .slice p.Ae (len n.els) p.ce, .bool n.he]] w
      fun e w' => e = .returned (.bool (mayN n)) ∧ Below w.heap.size w w' := by
  have hop := hok.op
  unfold inI at hop
  by_cases hf : Opx.flt n.op = true
  · rw [mayN_flt n hf]
    have HL := Lib.hid (fun o => Look_flt n.op (w.alloc o) hf)
    unfold noV at HL
    clear hf hN HB HE hok
    go_enter Tryz.func32, Tryz.ntmps32
    go_wp2_with (go_at_call 50; refine (HL.out _).mono ?_; rintro e w' ⟨rfl, hb1⟩; obtain ⟨hlt1, k0, k1, k2, k3, k4, k5, k6, k7, k8, kf, hw1⟩ := nineB hb1; have HW := Lib.hid hw1; clear hb1 hw1)
    go_ret
    exact ⟨rfl, HW.out.alloc HW.out.size _⟩
  have hf' : Opx.flt n.op = false := by simpa using hf
  by_cases hn : Opx.nm n.op = []
  · rw [mayN_none n hn]
    have HL := Lib.hid (fun o => Look_none n.op (w.alloc o) (hN.alloc o) (by omega) (by omega) hf' hn)
    unfold noV at HL
    clear hf hf' hN HB HE hok hn
    go_enter Tryz.func32, Tryz.ntmps32
    go_wp2_with (go_at_call 50; refine (HL.out _).mono ?_; rintro e w' ⟨rfl, hb1⟩; obtain ⟨hlt1, k0, k1, k2, k3, k4, k5, k6, k7, k8, kf, hw1⟩ := nineB hb1; have HW := Lib.hid hw1; clear hb1 hw1)
    go_ret
    exact ⟨rfl, HW.out.alloc HW.out.size _⟩
  · have HL := Lib.hid (fun o => Look_op n.op (w.alloc o) (hN.alloc o) hn hf')
    have HM := Lib.hid (mayN_eq n hn hok.v.1)
    obtain ⟨k, hk⟩ : ∃ k, k = Opx.kd n.op := ⟨_, rfl⟩
    have HC := Lib.hid (fun At lt ct w' (h : Below w.heap.size w w') => countedFit_any n.op n.a n.b n.v n.t p.AL p.Ab p.Ae n.L p.cL (len n.body) p.cb (len n.els) p.ce n.he n.op (Opx.nmB n.op) k At lt ct (Opx.gv n.op) (Opx.by_ n.op) (Opx.sn n.op) (may n.body) (may n.els) w'
      hok.a hok.b hok.L ((hok.sL.below h).more h.size) (Nat.le_trans hok.hL hok.cL) (fun w'' h2 => HB w'' (h.trans (h2.mono h.size))) (fun w'' h2 => HE w'' (h.trans (h2.mono h.size))))
    have HU := Lib.hid (fun At lt ct w' => unc_any n.op n.a n.b n.v n.t p.AL p.Ab p.Ae n.L.length p.cL (len n.body) p.cb (len n.els) p.ce n.he n.op (Opx.nmB n.op) k At lt ct (Opx.gv n.op) (Opx.by_ n.op) (Opx.sn n.op) w')
    rw [← hk] at HM
    unfold opV at HL
    rw [← hk] at HL
    unfold insV opA at HC HU
    have HI := Lib.hid (fun AL' Ab' Ae' cL' cb' ce' w' => isBare_any n.op (uA k n.op n.a) (uB k n.b) (uV k n.v) (uT k n.t) AL' Ab' Ae' (uL k n.op n.L.length) cL' (uY k (len n.body)) cb' (uE k n.op n.he (len n.els)) ce' (uH k n.op n.he) w')
    generalize bareB (uA k n.op n.a) (uB k n.b) (uV k n.v) (uT k n.t) (uL k n.op n.L.length) (uY k (len n.body)) (uE k n.op n.he (len n.els)) (uH k n.op n.he) = b1 at HM HI
    generalize cfB k n.op (Opx.gv n.op) n.v n.t n.a n.b n.L (may n.body) (may n.els) = b2 at HM HC
    rw [← HM.out]
    clear HM hf hf' hN HB HE hok hn hk
    cases b1
    · go_enter Tryz.func32, Tryz.ntmps32
      go_wp2_with (first
        | (go_at_call 50; refine (HL.out _).mono ?_; rintro e w1 ⟨At, ct, rfl, ho⟩; obtain ⟨hlt1, k0, k1, k2, k3, k4, k5, k6, k7, k8, kf, hw1⟩ := nineB ho.below; have HW1 := Lib.hid hw1; clear ho hw1 kf)
        | (go_at_call 52; ((with_reducible refine (HU.out _ _ _ _).mono ?_); rintro e w2 ⟨⟨AL', Ab', Ae', cL', cb', ce', rfl⟩, hb2⟩; obtain ⟨hlt2, m0, m1, m2, m3, m4, m5, m6, mf⟩ := seven hb2; have hb2' := below_alloc hb2; obtain ⟨hlt2', j0, j1, j2, j3, j4, j5, j6, j7, j8⟩ := keep9 hb2' k0 k1 k2 k3 k4 k5 k6 k7 k8; have HW2 := Lib.hid (HW1.out.trans (hb2'.mono HW1.out.size)); clear hb2 hb2' mf))
        | (go_at_call 51; ((with_reducible refine (HI.out _ _ _ _ _ _ _).mono ?_); rintro e w3 ⟨rfl, hb3⟩; obtain ⟨hlt3, i0, i1, i2, i3, i4, i5, i6, i7, i8⟩ := keep9 hb3 j0 j1 j2 j3 j4 j5 j6 j7 j8; obtain ⟨hlt3', l0, l1, l2, l3, l4, l5, l6⟩ := keep7 hb3 m0 m1 m2 m3 m4 m5 m6; have HW3 := Lib.hid (HW2.out.trans (hb3.mono HW2.out.size)); clear hb3))
        | (go_at_call 53; ((with_reducible refine (HC.out _ _ _ _ HW3.out).mono ?_); rintro e w4 ⟨rfl, hb4⟩; have HW4 := Lib.hid (HW3.out.trans (hb4.mono HW3.out.size)); clear hb4)))
      go_ret
      exact ⟨by simp, HW3.out⟩
    · go_enter Tryz.func32, Tryz.ntmps32
      go_wp2_with (first
        | (go_at_call 50; refine (HL.out _).mono ?_; rintro e w1 ⟨At, ct, rfl, ho⟩; obtain ⟨hlt1, k0, k1, k2, k3, k4, k5, k6, k7, k8, kf, hw1⟩ := nineB ho.below; have HW1 := Lib.hid hw1; clear ho hw1 kf)
        | (go_at_call 52; ((with_reducible refine (HU.out _ _ _ _).mono ?_); rintro e w2 ⟨⟨AL', Ab', Ae', cL', cb', ce', rfl⟩, hb2⟩; obtain ⟨hlt2, m0, m1, m2, m3, m4, m5, m6, mf⟩ := seven hb2; have hb2' := below_alloc hb2; obtain ⟨hlt2', j0, j1, j2, j3, j4, j5, j6, j7, j8⟩ := keep9 hb2' k0 k1 k2 k3 k4 k5 k6 k7 k8; have HW2 := Lib.hid (HW1.out.trans (hb2'.mono HW1.out.size)); clear hb2 hb2' mf))
        | (go_at_call 51; ((with_reducible refine (HI.out _ _ _ _ _ _ _).mono ?_); rintro e w3 ⟨rfl, hb3⟩; obtain ⟨hlt3, i0, i1, i2, i3, i4, i5, i6, i7, i8⟩ := keep9 hb3 j0 j1 j2 j3 j4 j5 j6 j7 j8; obtain ⟨hlt3', l0, l1, l2, l3, l4, l5, l6⟩ := keep7 hb3 m0 m1 m2 m3 m4 m5 m6; have HW3 := Lib.hid (HW2.out.trans (hb3.mono HW2.out.size)); clear hb3))
        | (go_at_call 53; ((with_reducible refine (HC.out _ _ _ _ HW3.out).mono ?_); rintro e w4 ⟨rfl, hb4⟩; have HW4 := Lib.hid (HW3.out.trans (hb4.mono HW3.out.size)); clear hb4)))
      go_ret
      exact ⟨by simp, HW4.out⟩

set_option maxHeartbeats 8000000 in
set_option maxRecDepth 100000 in
/-- all of a list of instructions, of mayBe. -/
theorem allIns_any (f : Fo) (A : Option Addr) (c : Nat) (w : World) (hr : RdS w w.heap.size A f) (hm : len f ≤ maxLen)
    (H : ∀ (n : Nd) (p : Pl) (w' : World), n ∈ nds f → NdOk w w.heap.size n p → Below w.heap.size w w' → Calls Tryz.prog 32 #[.agg #[.int .i64 n.op, .int .i64 n.a, .int .i64 n.b, .int .u64 n.v, .int .i64 n.t, .slice p.AL n.L.length p.cL, .slice p.Ab (len n.body) p.cb, .slice p.Ae (len n.els) p.ce, .bool n.he]] w'
      fun e w'' => e = .returned (.bool (mayN n)) ∧ Below w'.heap.size w' w'') :
    Calls Tryz.prog 31 #[.slice A (len f) c, .func (.func 32) #[] #[]] w fun e w' => e = .returned (.bool (may f)) ∧ Below w.heap.size w w' := by
  unfold maxLen at hm
  rw [may_nds]
  have HR := Lib.hid hr
  have HH := Lib.hid H
  clear hr H
  go_enter Tryz.func31, Tryz.ntmps31
  go_wp2_with fail
  go_loopw [9] (fun i wr => ∃ j : Nat, j ≤ len f ∧ i = .int .i64 j ∧ ((nds f).take j).all mayN = true ∧ Below w.heap.size w wr) (fun i _ => len f - (intOf i).toNat)
  case atStart => exact ⟨0, by omega, rfl, by simp, Below.refl _ _⟩
  case round =>
    obtain ⟨j, hj, rfl, hall, hbel⟩ := hrel
    have HA := Lib.hid hall
    clear hall
    by_cases hlt : j < len f
    · obtain ⟨b, o, n, p, rfl, hn, hat0⟩ := HR.out.at_ hlt
      obtain ⟨q0, q1, q2, q3, q4, q5, q6, q7, q8⟩ := (hat0.below hbel).nine
      have hb := Nat.lt_of_lt_of_le hat0.lt hbel.size
      have HC := Lib.hid (fun o => HH.out n p (wr.alloc o) (List.mem_of_getElem? hn) hat0.ok (hbel.alloc hbel.size o))
      have HG := Lib.hid hn
      have HB := Lib.hid hbel
      have hsz := hbel.size
      clear hat0 hbel hn HR HH
      cases hq : mayN n
      · rw [hq] at HC
        have HQ := Lib.hid (all_false mayN (nds f) j n HG.out hq)
        clear hq
        go_wp2_with (go_at_call 32; refine (HC.out _).mono ?_; rintro e w' ⟨rfl, hb1⟩; have HB1 := Lib.hid ((HB.out.alloc hsz _).trans (hb1.mono (by simp; omega))); clear hb1)
        go_ret
        exact ⟨by rw [HQ.out]; rfl, HB1.out⟩
      · rw [hq] at HC
        have HQ := Lib.hid ((all_snoc mayN (nds f) j n HG.out HA.out).trans hq)
        clear hq
        go_wp2_with (go_at_call 32; refine (HC.out _).mono ?_; rintro e w' ⟨rfl, hb1⟩; have HB1 := Lib.hid ((HB.out.alloc hsz _).trans (hb1.mono (by simp; omega))); clear hb1)
        go_roundw
        case rel => exact ⟨j + 1, by omega, by go_num, HQ.out, HB1.out⟩
        case measure => simp [intOf]; omega
    · have HT := Lib.hid (List.take_of_length_le (l := nds f) (i := j) (by unfold len at *; omega))
      have HB := Lib.hid hbel
      clear hbel
      go_wp2_with fail
      go_ret
      exact ⟨by rw [← HA.out, HT.out]; rfl, HB.out⟩

set_option maxHeartbeats 8000000 in
set_option maxRecDepth 100000 in
theorem May_any (k : Nat) : ∀ (f : Fo) (A : Option Addr) (c : Nat) (w : World), cnt f ≤ k → Nam w → RdS w w.heap.size A f → len f ≤ maxLen →
    Calls Tryz.prog 20 #[.slice A (len f) c] w fun e w' => e = .returned (.bool (may f)) ∧ Below w.heap.size w w' := by
  induction k using Nat.strongRecOn with
  | ind k ih =>
    intro f A c w hk hN hr hm
    have HA := Lib.hid (allIns_any f A c w hr hm (fun n p w' hn hok hb => mayBe_any n p w' (hN.below hb) (hok.num.keep hb.size fun b o hp => hb.cell (p := ⟨b, o, none⟩) hp)
      (fun w'' hb2 => ih _ (Nat.lt_of_lt_of_le (cnt_mem hn).1 hk) n.body p.Ab p.cb w'' (Nat.le_refl _) (hN.below (hb.trans (hb2.mono hb.size))) ((hok.body.below (hb.trans (hb2.mono hb.size))).more (hb.trans (hb2.mono hb.size)).size) (Nat.le_trans hok.num.hb hok.num.cb))
      (fun w'' hb2 => ih _ (Nat.lt_of_lt_of_le (cnt_mem hn).2 hk) n.els p.Ae p.ce w'' (Nat.le_refl _) (hN.below (hb.trans (hb2.mono hb.size))) ((hok.els.below (hb.trans (hb2.mono hb.size))).more (hb.trans (hb2.mono hb.size)).size) (Nat.le_trans hok.num.he hok.num.ce))))
    clear ih hr hN
    go_enter Tryz.func20, Tryz.ntmps20
    go_wp2_with (go_at_call 31; refine HA.out.mono ?_; rintro e w' ⟨rfl, hb1⟩)
    go_ret
    exact ⟨rfl, hb1⟩
end Go.Proofs.YtbhniddgkdldlaaGreatDoor
