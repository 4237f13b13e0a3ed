/- Contracts of shortLists, smallCode, smallIns. -/
import Derived.Test.YtmdgemdollfnhaaGreatDoorTreeF
import Derived.Test.YtmdgemdollfnhaaGreatDoorTreeQLa
namespace Go.Proofs.YtmdgemdollfnhaaGreatDoor
open Go.RowKit Trx

/-- is no list of numbers long? -/
def sh : Fo → Bool
  | .nil => true
  | .cons _ _ _ _ _ L body els _ next => (decide (L.length ≤ 64) && sh body && sh els) && sh next
def shN (n : Nd) : Bool := decide (n.L.length ≤ 64) && sh n.body && sh n.els
theorem sh_nds (f : Fo) : sh f = (nds f).all shN := by
  induction f with
  | nil => rfl
  | cons op a b v t L body els he next _ _ ih => simp [sh, nds, shN, ih]
def scode (f : Fo) : Bool := decide (wrap64 (cnt f) ≤ 512) && decide (dp f ≤ 32) && sh f
def sIns (n : Nd) : Bool := scode (ofN [n])
theorem leT {a b : Nat} (h : a ≤ b) : decide ((a : Int) ≤ (b : Int)) = true := decide_eq_true (by omega)
theorem leF {a b : Nat} (h : ¬ a ≤ b) : decide ((a : Int) ≤ (b : Int)) = false := decide_eq_false (by omega)

set_option maxHeartbeats 8000000 in
set_option maxRecDepth 100000 in
/-- all of a list of instructions, of shortLists' own. -/
theorem allSh_any (f : Fo) (A : Option Addr) (c : Nat) (w : World) (hr : RdS w w.heap.size A f) (hm : len f ≤ maxLen)
    (H : ∀ (n : Nd) (p : Pl) (w' : World), n ∈ nds f → NdOk w w.heap.size n p → Below w.heap.size w w' → Calls Tryz.prog 79 #[.agg #[.int .i64 n.op, .int .i64 n.a, .int .i64 n.b, .int .u64 n.v, .int .i64 n.t, .slice p.AL n.L.length p.cL, .slice p.Ab (len n.body) p.cb, .slice p.Ae (len n.els) p.ce, .bool n.he]] w'
      fun e w'' => e = .returned (.bool (shN n)) ∧ Below w'.heap.size w' w'') :
    Calls Tryz.prog 54 #[.slice A (len f) c, .func (.func 79) #[] #[]] w fun e w' => e = .returned (.bool (sh f)) ∧ Below w.heap.size w w' := by
  unfold maxLen at hm
  rw [sh_nds]
  have HR := Lib.hid hr
  have HH := Lib.hid H
  clear hr H
  go_enter Tryz.func54, Tryz.ntmps54
  go_wp2_with fail
  go_loopw [9] (fun i wr => ∃ j : Nat, j ≤ len f ∧ i = .int .i64 j ∧ ((nds f).take j).all shN = true ∧ Below w.heap.size w wr) (fun i _ => len f - (intOf i).toNat)
  case atStart => exact ⟨0, by omega, rfl, by simp, Below.refl _ _⟩
  case round =>
    obtain ⟨j, hj, rfl, hall, hbel⟩ := hrel
    have HA := Lib.hid hall
    clear hall
    by_cases hlt : j < len f
    · obtain ⟨b, o, n, p, rfl, hn, hat0⟩ := HR.out.at_ hlt
      obtain ⟨q0, q1, q2, q3, q4, q5, q6, q7, q8⟩ := (hat0.below hbel).nine
      have hb := Nat.lt_of_lt_of_le hat0.lt hbel.size
      have HC := Lib.hid (fun o => HH.out n p (wr.alloc o) (List.mem_of_getElem? hn) hat0.ok (hbel.alloc hbel.size o))
      have HG := Lib.hid hn
      have HB := Lib.hid hbel
      have hsz := hbel.size
      clear hat0 hbel hn HR HH
      cases hq : shN n
      · rw [hq] at HC
        have HQ := Lib.hid (all_false shN (nds f) j n HG.out hq)
        clear hq
        go_wp2_with (go_at_call 79; refine (HC.out _).mono ?_; rintro e w' ⟨rfl, hb1⟩; have HB1 := Lib.hid ((HB.out.alloc hsz _).trans (hb1.mono (by simp; omega))); clear hb1)
        go_ret
        exact ⟨by rw [HQ.out]; rfl, HB1.out⟩
      · rw [hq] at HC
        have HQ := Lib.hid ((all_snoc shN (nds f) j n HG.out HA.out).trans hq)
        clear hq
        go_wp2_with (go_at_call 79; refine (HC.out _).mono ?_; rintro e w' ⟨rfl, hb1⟩; have HB1 := Lib.hid ((HB.out.alloc hsz _).trans (hb1.mono (by simp; omega))); clear hb1)
        go_roundw
        case rel => exact ⟨j + 1, by omega, by go_num, HQ.out, HB1.out⟩
        case measure => simp [intOf]; omega
    · have HT := Lib.hid (List.take_of_length_le (l := nds f) (i := j) (by unfold len at *; omega))
      have HB := Lib.hid hbel
      clear hbel
      go_wp2_with fail
      go_ret
      exact ⟨by rw [← HA.out, HT.out]; rfl, HB.out⟩


set_option maxHeartbeats 8000000 in
set_option maxRecDepth 100000 in
theorem shOne_any (n : Nd) (p : Pl) (w : World) (HB : ∀ w', Below w.heap.size w w' → Calls Tryz.prog 71 #[.slice p.Ab (len n.body) p.cb] w' fun e w'' => e = .returned (.bool (sh n.body)) ∧ Below w'.heap.size w' w'')
    (HE : ∀ w', Below w.heap.size w w' → Calls Tryz.prog 71 #[.slice p.Ae (len n.els) p.ce] w' fun e w'' => e = .returned (.bool (sh n.els)) ∧ Below w'.heap.size w' w'') :
    Calls Tryz.prog 79 #[.agg #[.int .i64 n.op, .int .i64 n.a, .int .i64 n.b, .int .u64 n.v, .int .i64 n.t, .slice p.AL n.L.length p.cL, .slice p.Ab (len n.body) p.cb, .slice p.Ae (len n.els) p.ce, .bool n.he]] w fun e w' => e = .returned (.bool (shN n)) ∧ Below w.heap.size w w' := by
  unfold shN
  have HB := Lib.hid HB
  have HE := Lib.hid HE
  by_cases h1 : n.L.length ≤ 64
  · have t1 : decide ((n.L.length : Int) ≤ 64) = true := leT h1
    rw [decide_eq_true h1]
    clear h1
    cases hq : sh n.body
    · rw [hq] at HB
      clear hq
      go_enter Tryz.func79, Tryz.ntmps79
      go_wp2_with (go_at_call 71; refine (HB.out _ ((Below.refl _ _).alloc (Nat.le_refl _) _)).mono ?_; rintro e w1 ⟨rfl, hb1⟩; have HW1 := Lib.hid (bel_alloc hb1); clear hb1)
      go_ret
      exact ⟨rfl, HW1.out⟩
    · rw [hq] at HB
      clear hq
      go_enter Tryz.func79, Tryz.ntmps79
      go_wp2_with (first
        | (go_at_call 71; ((with_reducible refine (HB.out _ ((Below.refl _ _).alloc (Nat.le_refl _) _)).mono ?_); rintro e w1 ⟨rfl, hb1⟩; obtain ⟨hl1, n1, -, hw1⟩ := newBlk hb1; have c7 : w1.cell? ⟨w.heap.size, 7, none⟩ = some (.slice p.Ae (len n.els) p.ce) := n1 7; have HW1 := Lib.hid hw1; clear hb1 n1 hw1))
        | (go_at_call 71; ((with_reducible refine (HE.out _ HW1.out).mono ?_); rintro e w2 ⟨rfl, hb2⟩; have HW2 := Lib.hid (HW1.out.trans (hb2.mono HW1.out.size)); clear hb2)))
      go_ret
      exact ⟨by simp, HW2.out⟩
  · have t1 : decide ((n.L.length : Int) ≤ 64) = false := leF h1
    rw [decide_eq_false h1]
    clear h1
    go_enter Tryz.func79, Tryz.ntmps79
    go_wp2_with fail
    go_ret
    exact ⟨by simp, (Below.refl _ _).alloc (Nat.le_refl _) _⟩

set_option maxHeartbeats 8000000 in
set_option maxRecDepth 100000 in
theorem shortLists_any (k : Nat) : ∀ (f : Fo) (A : Option Addr) (c : Nat) (w : World), cnt f ≤ k → RdS w w.heap.size A f → len f ≤ maxLen →
    Calls Tryz.prog 71 #[.slice A (len f) c] w fun e w' => e = .returned (.bool (sh f)) ∧ Below w.heap.size w w' := by
  induction k using Nat.strongRecOn with
  | ind k ih =>
    intro f A c w hk hr hm
    have HA := Lib.hid (allSh_any f A c w hr hm (fun n p w' hn hok hb => shOne_any n p w'
      (fun w'' hb2 => ih _ (Nat.lt_of_lt_of_le (cnt_mem hn).1 hk) n.body p.Ab p.cb w'' (Nat.le_refl _) ((hok.body.below (hb.trans (hb2.mono hb.size))).more (hb.trans (hb2.mono hb.size)).size) (Nat.le_trans hok.num.hb hok.num.cb))
      (fun w'' hb2 => ih _ (Nat.lt_of_lt_of_le (cnt_mem hn).2 hk) n.els p.Ae p.ce w'' (Nat.le_refl _) ((hok.els.below (hb.trans (hb2.mono hb.size))).more (hb.trans (hb2.mono hb.size)).size) (Nat.le_trans hok.num.he hok.num.ce))))
    clear ih hr
    go_enter Tryz.func71, Tryz.ntmps71
    go_wp2_with (go_at_call 54; refine HA.out.mono ?_; rintro e w' ⟨rfl, hb1⟩)
    go_ret
    exact ⟨rfl, hb1⟩

set_option maxHeartbeats 8000000 in
set_option maxRecDepth 100000 in
theorem smallCode_any (f : Fo) (A : Option Addr) (c : Nat) (w : World) (hN : Nam w) (hr : RdS w w.heap.size A f) (hm : len f ≤ maxLen) :
    Calls Tryz.prog 61 #[.slice A (len f) c] w fun e w' => e = .returned (.bool (scode f)) ∧ Below w.heap.size w w' := by
  have HC := Lib.hid (Count_any _ f A c w (Nat.le_refl _) hN hr hm)
  have HS := Lib.hid (fun w' (hb : Below w.heap.size w w') => shortLists_any _ f A c w' (Nat.le_refl _) ((hr.below hb).more hb.size) hm)
  clear hr hN
  have k1 : -9223372036854775808 ≤ wrap64 (cnt f) ∧ wrap64 (cnt f) ≤ 9223372036854775807 := by unfold wrap64; omega
  have k2 := dp_nonneg f
  have k3 := dp_le f
  unfold scode
  generalize wrap64 (cnt f) = x at *
  generalize dp f = y at *
  by_cases h1 : x ≤ 512
  · have t1 := decide_eq_true h1
    rw [t1]
    by_cases h2 : y ≤ 32
    · have t2 := decide_eq_true h2
      rw [t2]
      clear h1 h2
      go_enter Tryz.func61, Tryz.ntmps61
      go_wp2_with (first
        | (go_at_call 11; refine HC.out.mono ?_; rintro e w1 ⟨rfl, hb1⟩; have HW1 := Lib.hid hb1; clear hb1)
        | (go_at_call 71; refine (HS.out _ HW1.out).mono ?_; rintro e w2 ⟨rfl, hb2⟩; have HW2 := Lib.hid (HW1.out.trans (hb2.mono HW1.out.size)); clear hb2))
      go_ret
      exact ⟨by simp, HW2.out⟩
    · have t2 := decide_eq_false h2
      rw [t2]
      clear h1 h2
      go_enter Tryz.func61, Tryz.ntmps61
      go_wp2_with (go_at_call 11; refine HC.out.mono ?_; rintro e w1 ⟨rfl, hb1⟩; have HW1 := Lib.hid hb1; clear hb1)
      go_ret
      exact ⟨by simp, HW1.out⟩
  · have t1 := decide_eq_false h1
    rw [t1]
    clear h1
    go_enter Tryz.func61, Tryz.ntmps61
    go_wp2_with (go_at_call 11; refine HC.out.mono ?_; rintro e w1 ⟨rfl, hb1⟩; have HW1 := Lib.hid hb1; clear hb1)
    go_ret
    exact ⟨by simp, HW1.out⟩

theorem smallCode_one (n : Nd) (A : Option Addr) (c : Nat) (w : World) (hN : Nam w) (hr : RdS w w.heap.size A (ofN [n])) : Calls Tryz.prog 61 #[.slice A 1 c] w fun e w' => e = .returned (.bool (sIns n)) ∧ Below w.heap.size w w' :=
  smallCode_any (ofN [n]) A c w hN hr (by rw [len_ofN]; unfold maxLen; simp)
set_option maxHeartbeats 8000000 in
set_option maxRecDepth 100000 in
theorem smallIns_any (i : In) (w : World) (hN : Nam w) (h : i.ok w w.heap.size) :
    Calls Tryz.prog 62 #[inA i] w fun e w' => e = .returned (.bool (sIns i.n)) ∧ Below w.heap.size w w' := by
  have HR := Lib.hid (fun o t => single_rd (o := o) (t := t) h rfl)
  have HN := Lib.hid hN
  unfold insC at HR
  unfold inA
  clear h hN
  go_enter Tryz.func62, Tryz.ntmps62
  go_wp2_with (go_at_call 61; refine (smallCode_one i.n _ _ _ (HN.out.below (((Below.refl _ _).alloc (Nat.le_refl _) _).alloc (by simp) _)) (HR.out _ _)).mono ?_; rintro e w1 ⟨rfl, hb1⟩; have HW1 := Lib.hid (bel_alloc (bel_alloc hb1)); clear hb1)
  go_ret
  exact ⟨rfl, HW1.out⟩
end Go.Proofs.YtmdgemdollfnhaaGreatDoor
