/- Contracts of the reference's one (whatever the operation), and of its May. -/
import Derived.Test.YtbhniddgkdldlaaGreatDoorTreeO10
import Derived.Test.YtbhniddgkdldlaaGreatDoorTreeO20
import Derived.Test.YtbhniddgkdldlaaGreatDoorTreeO30
import Derived.Test.YtbhniddgkdldlaaGreatDoorTreeO40
set_option linter.unusedVariables false
set_option linter.unusedSimpArgs false
namespace Go.Proofs.YtbhniddgkdldlaaGreatDoor
open Go.RowKit Trx

set_option maxHeartbeats 16000000 in
set_option maxRecDepth 100000 in
theorem one_z (op a b v t : Int) (L : List Int) (nb ne mb me : Bool) (lb le : Nat) (AL Ab Ae : Option Addr) (cL cb ce : Nat) (he : Bool) (w : World) (hk : knd op = 0) :
    Calls Tryz.prog 22 #[.agg #[.int .i64 op, .int .i64 a, .int .i64 b, .int .u64 v, .int .i64 t, .slice AL L.length cL, .slice Ab lb cb, .slice Ae le ce, .bool he]] w
      fun e w' => e = .returned (.bool (fit op a b v t L nb ne he && mb && me)) ∧ Below w.heap.size w w' := by
  have HK := Lib.hid (Kind_any op)
  rw [hk] at HK
  rw [show (fit op a b v t L nb ne he && mb && me) = false by simp [fit, hk]]
  clear hk
  go_enter Tryz.func22, Tryz.ntmps22
  go_wp2_with (go_at_call 34; refine (HK.out _).mono ?_; rintro e w1 ⟨rfl, hb1⟩; obtain ⟨hlt1, q0, q1, q2, q3, q4, q5, q6, q7, q8, -, hw1⟩ := nineB hb1; have HW := Lib.hid hw1; clear hb1 hw1)
  all_goals (go_ret; exact ⟨rfl, HW.out⟩)

theorem one_any (n : Nd) (p : Pl) (w : World) (hok : NdNum w w.heap.size n p)
    (HB : ∀ w', Below w.heap.size w w' → Calls Tryz.prog 11 #[.slice p.Ab (len n.body) p.cb] w' fun e w'' => e = .returned (.bool (may n.body)) ∧ Below w'.heap.size w' w'')
    (HE : ∀ w', Below w.heap.size w w' → Calls Tryz.prog 11 #[.slice p.Ae (len n.els) p.ce] w' fun e w'' => e = .returned (.bool (may n.els)) ∧ Below w'.heap.size w' w'') :
    Calls Tryz.prog 22 #[.agg #[.int .i64 n.op, .int .i64 n.a, .int .i64 n.b, .int .u64 n.v, .int .i64 n.t, .slice p.AL n.L.length p.cL, .slice p.Ab (len n.body) p.cb, .slice p.Ae (len n.els) p.ce, .bool n.he]] w
      fun e w' => e = .returned (.bool (mayN n)) ∧ Below w.heap.size w w' := by
  unfold mayN
  obtain ⟨op, a, b, v, t, L, body, els, he⟩ := n
  have hm := Nat.le_trans hok.hL hok.cL
  have hs := hok.sL
  simp only at hm hs HB HE ⊢
  clear hok
  by_cases hn : Opx.nm op = []
  · exact one_z op a b v t L _ _ _ _ _ _ p.AL p.Ab p.Ae p.cL p.cb p.ce he w (by simp [knd, hn])
  have hk : knd op = Opx.kd op := by
    unfold knd
    rw [if_neg]
    simpa [List.isEmpty_iff] using hn
  have ho := kd_ops op
  have hj := nm_jump op
  have hne : ∀ x : Int, op ≠ x → (op == x) = false := fun x h => by simpa using h
  have hne' : ∀ x : Int, op ≠ x → (op != x) = true := fun x h => by simpa using h
  rcases kd_cases op with h | h | h | h | h | h | h | h | h | h | h
  all_goals rw [h] at ho hj hk
  · exact one_other 1 op a b v t L body els p.AL p.Ab p.Ae p.cL p.cb p.ce he w hk rfl rfl rfl rfl rfl rfl rfl rfl rfl (hne _ (by omega)) (hne _ (by omega)) (hne _ (by omega)) (hne _ (by omega)) (hne' _ (by omega)) (hne _ (by omega)) hs hm HB HE
  · by_cases e4 : op = 4
    · subst e4
      exact one_b4 a b v t L body els p.AL p.Ab p.Ae p.cL p.cb p.ce he w hk hs hm HB HE
    · exact one_bn op a b v t L body els p.AL p.Ab p.Ae p.cL p.cb p.ce he w hk (hne _ (by omega)) (hne _ (by omega)) (hne _ (by omega)) (hne _ (by omega)) (hne' _ (by omega)) (hne _ (by omega)) hs hm HB HE
  · rcases hj rfl hn with rfl | rfl | rfl | rfl
    · exact one_j12 a b v t L body els p.AL p.Ab p.Ae p.cL p.cb p.ce he w hk hs hm HB HE
    · exact one_j13 a b v t L body els p.AL p.Ab p.Ae p.cL p.cb p.ce he w hk hs hm HB HE
    · exact one_j14 a b v t L body els p.AL p.Ab p.Ae p.cL p.cb p.ce he w hk hs hm HB HE
    · exact one_j15 a b v t L body els p.AL p.Ab p.Ae p.cL p.cb p.ce he w hk hs hm HB HE
  · exact one_k4 op a b v t L body els p.AL p.Ab p.Ae p.cL p.cb p.ce he w hk (hne _ (by omega)) (hne _ (by omega)) (hne _ (by omega)) (hne _ (by omega)) (hne' _ (by omega)) (hne _ (by omega)) hs hm HB HE
  · exact one_other 5 op a b v t L body els p.AL p.Ab p.Ae p.cL p.cb p.ce he w hk rfl rfl rfl rfl rfl rfl rfl rfl rfl (hne _ (by omega)) (hne _ (by omega)) (hne _ (by omega)) (hne _ (by omega)) (hne' _ (by omega)) (hne _ (by omega)) hs hm HB HE
  · exact one_k6 op a b v t L body els p.AL p.Ab p.Ae p.cL p.cb p.ce he w hk (hne _ (by omega)) (hne _ (by omega)) (hne _ (by omega)) (hne _ (by omega)) (hne' _ (by omega)) (hne _ (by omega)) hs hm HB HE
  · exact one_k7 op a b v t L body els p.AL p.Ab p.Ae p.cL p.cb p.ce he w hk (hne _ (by omega)) (hne _ (by omega)) (hne _ (by omega)) (hne _ (by omega)) (hne' _ (by omega)) (hne _ (by omega)) hs hm HB HE
  · exact one_k8 op a b v t L body els p.AL p.Ab p.Ae p.cL p.cb p.ce he w hk (hne _ (by omega)) (hne _ (by omega)) (hne _ (by omega)) (hne _ (by omega)) (hne' _ (by omega)) (hne _ (by omega)) hs hm HB HE
  · exact one_other 9 op a b v t L body els p.AL p.Ab p.Ae p.cL p.cb p.ce he w hk rfl rfl rfl rfl rfl rfl rfl rfl rfl (hne _ (by omega)) (hne _ (by omega)) (hne _ (by omega)) (hne _ (by omega)) (hne' _ (by omega)) (hne _ (by omega)) hs hm HB HE
  · rcases ho.2.2.2 rfl with rfl | rfl
    · exact one_k65 a b v t L body els p.AL p.Ab p.Ae p.cL p.cb p.ce he w hk hs hm HB HE
    · exact one_k66 a b v t L body els p.AL p.Ab p.Ae p.cL p.cb p.ce he w hk hs hm HB HE
  · exact one_other 11 op a b v t L body els p.AL p.Ab p.Ae p.cL p.cb p.ce he w hk rfl rfl rfl rfl rfl rfl rfl rfl rfl (hne _ (by omega)) (hne _ (by omega)) (hne _ (by omega)) (hne _ (by omega)) (hne' _ (by omega)) (hne _ (by omega)) hs hm HB HE

set_option maxHeartbeats 8000000 in
set_option maxRecDepth 100000 in
theorem refMay_any (k : Nat) : ∀ (f : Fo) (A : Option Addr) (c : Nat) (w : World), cnt f ≤ k → RdS w w.heap.size A f → len f ≤ maxLen →
    Calls Tryz.prog 11 #[.slice A (len f) c] w fun e w' => e = .returned (.bool (may f)) ∧ Below w.heap.size w w' := by
  induction k using Nat.strongRecOn with
  | ind k ih =>
    intro f A c w hk hr hm
    unfold maxLen at hm
    rw [may_nds]
    have HR := Lib.hid hr
    have HH := Lib.hid (fun (n : Nd) (p : Pl) (w' : World) (hn : n ∈ nds f) (hok : NdOk w w.heap.size n p) (hb : Below w.heap.size w w') => one_any n p w' (hok.num.keep hb.size fun b o hp => hb.cell (p := ⟨b, o, none⟩) hp)
      (fun w'' hb2 => ih _ (Nat.lt_of_lt_of_le (cnt_mem hn).1 hk) n.body p.Ab p.cb w'' (Nat.le_refl _) ((hok.body.below (hb.trans (hb2.mono hb.size))).more (hb.trans (hb2.mono hb.size)).size) (Nat.le_trans hok.num.hb hok.num.cb))
      (fun w'' hb2 => ih _ (Nat.lt_of_lt_of_le (cnt_mem hn).2 hk) n.els p.Ae p.ce w'' (Nat.le_refl _) ((hok.els.below (hb.trans (hb2.mono hb.size))).more (hb.trans (hb2.mono hb.size)).size) (Nat.le_trans hok.num.he hok.num.ce)))
    clear hr ih
    go_enter Tryz.func11, Tryz.ntmps11
    go_wp2_with fail
    go_loopw [3] (fun i wr => ∃ j : Nat, j ≤ len f ∧ i = .int .i64 j ∧ ((nds f).take j).all mayN = true ∧ Below w.heap.size w wr) (fun i _ => len f - (intOf i).toNat)
    case atStart => exact ⟨0, by omega, rfl, by simp, Below.refl _ _⟩
    case round =>
      obtain ⟨j, hj, rfl, hall, hbel⟩ := hrel
      have HA := Lib.hid hall
      clear hall
      by_cases hlt : j < len f
      · obtain ⟨b, o, n, p, rfl, hn, hat0⟩ := HR.out.at_ hlt
        obtain ⟨q0, q1, q2, q3, q4, q5, q6, q7, q8⟩ := (hat0.below hbel).nine
        have hb := Nat.lt_of_lt_of_le hat0.lt hbel.size
        have HC := Lib.hid (HH.out n p wr (List.mem_of_getElem? hn) hat0.ok hbel)
        have HG := Lib.hid hn
        have HB := Lib.hid hbel
        have hsz := hbel.size
        clear hat0 hbel hn HR HH
        cases hq : mayN n
        · rw [hq] at HC
          have HQ := Lib.hid (all_false mayN (nds f) j n HG.out hq)
          clear hq
          go_wp2_with (go_at_call 22; refine HC.out.mono ?_; rintro e w' ⟨rfl, hb1⟩; have HB1 := Lib.hid (HB.out.trans (hb1.mono hsz)); clear hb1)
          go_ret
          exact ⟨by rw [HQ.out]; rfl, HB1.out⟩
        · rw [hq] at HC
          have HQ := Lib.hid ((all_snoc mayN (nds f) j n HG.out HA.out).trans hq)
          clear hq
          go_wp2_with (go_at_call 22; refine HC.out.mono ?_; rintro e w' ⟨rfl, hb1⟩; have HB1 := Lib.hid (HB.out.trans (hb1.mono hsz)); clear hb1)
          go_roundw
          case rel => exact ⟨j + 1, by omega, by go_num, HQ.out, HB1.out⟩
          case measure => simp [intOf]; omega
      · have HT := Lib.hid (List.take_of_length_le (l := nds f) (i := j) (by unfold len at *; omega))
        have HB := Lib.hid hbel
        clear hbel
        go_wp2_with fail
        go_ret
        exact ⟨by rw [← HA.out, HT.out]; rfl, HB.out⟩
end Go.Proofs.YtbhniddgkdldlaaGreatDoor
