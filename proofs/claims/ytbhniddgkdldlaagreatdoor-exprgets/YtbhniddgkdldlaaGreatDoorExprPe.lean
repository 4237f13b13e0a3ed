/- Contracts of layer 6's writer: expr.putIns, putList, Put: of whatever reads as a list of instructions. -/
import Derived.Test.YtbhniddgkdldlaaGreatDoorExprPq
import Derived.Test.YtbhniddgkdldlaaGreatDoorTreeF0
set_option linter.unusedVariables false
set_option linter.unusedSimpArgs false
namespace Go.Proofs.YtbhniddgkdldlaaGreatDoor.Trx
open Go.RowKit

theorem vok_nds (f : Fo) : vok f ↔ ∀ n ∈ nds f, (0 ≤ n.v ∧ n.v ≤ 18446744073709551615) ∧ vok n.body ∧ vok n.els := by
  induction f with
  | nil => simp [vok, nds]
  | cons op a b v t L body els he next _ _ ih => simp only [vok, nds, List.forall_mem_cons, ih, and_assoc]
theorem take_mem {f : Fo} {j : Nat} {n : Nd} (h : n ∈ (nds f).take j) : n ∈ nds f := List.mem_of_mem_take h
theorem vok_take {f : Fo} (h : vok f) (j : Nat) : vok (ofN ((nds f).take j)) := by
  rw [vok_nds, nds_ofN]
  exact fun n hn => (vok_nds f).1 h n (take_mem hn)
theorem may_take {f : Fo} (h : may f = true) (j : Nat) : may (ofN ((nds f).take j)) = true := by
  rw [may_ofN]
  rw [may_nds] at h
  exact List.all_eq_true.2 fun n hn => List.all_eq_true.1 h n (take_mem hn)
theorem wt_take (f : Fo) (j : Nat) : wt (ofN ((nds f).take j)) ≤ wt f := by
  have := wt_append ((nds f).take j) ((nds f).drop j)
  rw [List.take_append_drop, ofN_nds] at this
  omega
theorem enc_one (n : Nd) : enc (ofN [n]) = b8 n.op :: eB n.op n.a n.b n.v n.t n.L (enc n.body) (enc n.els) n.he := by simp [ofN, enc]
theorem enc_step {f : Fo} {j : Nat} {n : Nd} (h : (nds f)[j]? = some n) : enc (ofN ((nds f).take (j + 1))) = enc (ofN ((nds f).take j)) ++ (b8 n.op :: eB n.op n.a n.b n.v n.t n.L (enc n.body) (enc n.els) n.he) := by
  rw [List.take_add_one, h]
  simp only [Option.toList_some]
  rw [enc_append, enc_one]
theorem wt_step {f : Fo} {j : Nat} {n : Nd} (h : (nds f)[j]? = some n) : wt (ofN ((nds f).take j)) + (1 + n.L.length + wt n.body + wt n.els) ≤ wt f := by
  have h1 := wt_take f (j + 1)
  rw [List.take_add_one, h] at h1
  simp only [Option.toList_some] at h1
  rw [wt_append] at h1
  simp only [ofN, wt] at h1
  omega
end Go.Proofs.YtbhniddgkdldlaaGreatDoor.Trx
namespace Go.Proofs.YtbhniddgkdldlaaGreatDoor
open Go.RowKit Trx

theorem RdF.vok {w : World} {B : Nat} {f : Fo} {blk off : Nat} (h : RdF w B f blk off) : Trx.vok f := by
  induction f generalizing blk off with
  | nil => trivial
  | cons op a b v t L body els he next ih1 ih2 ih3 =>
    obtain ⟨⟨hlt, p, hc, hn, hb, he'⟩, hr⟩ := h
    refine ⟨hn.v, ?_, ?_, ih3 hr⟩
    · cases body with
      | nil => trivial
      | cons => obtain ⟨b', o', -, h'⟩ := hb (by simp); exact ih1 h'
    · cases els with
      | nil => trivial
      | cons => obtain ⟨b', o', -, h'⟩ := he' (by simp); exact ih2 h'
theorem RdS.vok {w : World} {B : Nat} {A : Option Addr} {f : Fo} (h : RdS w B A f) : Trx.vok f := by
  cases f with
  | nil => trivial
  | cons => obtain ⟨b, o, -, h'⟩ := h (by simp); exact h'.vok

theorem putIns_any (n : Nd) (p : Pl) (v : Value) (bs : List UInt8) (w0 w : World) (hN : Nam w0) (hok : NdOk w0 w0.heap.size n p) (hfit : fit n.op n.a n.b n.v n.t n.L (isNil n.body) (isNil n.els) n.he = true)
    (hB : PutsL w0 n.body p.Ab p.cb) (hE : PutsL w0 n.els p.Ae p.ce) (ho : OwB w0 w v bs) (e2 : (enc n.body).length ≤ 24 * wt n.body) (e3 : (enc n.els).length ≤ 24 * wt n.els) (hl : bs.length + 24 + 24 * n.L.length + 24 * wt n.body + 24 * wt n.els ≤ 60000000) :
    Calls Tryz.prog 33 #[v, ndV n p] w (Wrote w0 w v (bs ++ (b8 n.op :: eB n.op n.a n.b n.v n.t n.L (enc n.body) (enc n.els) n.he))) := by
  obtain ⟨h0, h1, h2, h3, h4, h5, h6, h7, h8, h9, h10, h11, h12, h13⟩ := fit_facts hfit
  have hq := bh_eq n.op h0
  have ha := (num32_iff _).1 h9
  have hb := (num32_iff _).1 h10
  have hv := hok.num.v
  unfold inU at hv
  unfold eB eP
  by_cases c0 : knd n.op = 2
  · rw [if_pos c0] at hq ⊢
    exact putIns_1 n p v bs w0 w hN h0 hq h11.1 h11.2 hB hE e2 e3 (by omega) ho
  rw [if_neg c0] at hq ⊢
  by_cases c1 : knd n.op = 7 ∨ knd n.op = 8
  · rw [if_pos c1] at hq ⊢
    exact putIns_4 n p v bs w0 w hN h0 hq ha hb (by omega) ho
  rw [if_neg c1] at hq ⊢
  by_cases c2 : knd n.op = 9
  · rw [if_pos c2] at hq ⊢
    exact putIns_6 n p v bs w0 w hN h0 hq (by omega) ho
  rw [if_neg c2] at hq ⊢
  by_cases c3 : n.op = 65
  · rw [if_pos (Or.inl c3)] at hq
    rw [if_pos c3]
    have := h12 c3
    refine putIns_7 n p v bs w0 w hN h0 hq (s32 n.v) (by unfold s32; split <;> omega) (by unfold s32; split <;> omega) (fun w => ?_) (by omega) ho
    rw [c3, gv_65]
    exact signed_32 n.v w hv.1 this
  rw [if_neg c3]
  by_cases c4 : n.op = 66
  · rw [if_pos (Or.inr c4)] at hq
    rw [if_pos c4]
    refine putIns_7 n p v bs w0 w hN h0 hq (s64 n.v) (by unfold s64; split <;> omega) (by unfold s64; split <;> omega) (fun w => ?_) (by omega) ho
    rw [c4, gv_66]
    exact signed_64 n.v 2 w hv.1 hv.2 (by decide)
  rw [if_neg c4]
  rw [if_neg (by omega)] at hq
  by_cases c5 : n.op = 14
  · rw [if_pos c5] at hq ⊢
    exact putIns_5 n p v bs w0 w hN h0 hq (h6 c5) h13 hok.num.sL (by omega) ho
  rw [if_neg c5] at hq ⊢
  by_cases c6 : n.op = 17
  · rw [if_pos c6] at hq ⊢
    exact putIns_3 n p v bs w0 w hN h0 hq ha (by omega) ho
  rw [if_neg c6] at hq ⊢
  by_cases c7 : knd n.op = 4 ∨ knd n.op = 6 ∨ n.op = 12 ∨ n.op = 13
  · rw [if_pos c7] at hq ⊢
    exact putIns_2 n p v bs w0 w hN h0 hq ha (by omega) ho
  rw [if_neg c7] at hq ⊢
  exact putIns_0 n p v bs w0 w hN h0 hq (by omega) ho

def PtL (f : Fo) (w0 : World) (v : Value) (w : World) (bs : List UInt8) (x i : Value) (wr : World) : Prop :=
  ∃ j : Nat, j ≤ len f ∧ i = .int .i64 j ∧ OwB w0 wr x (bs ++ enc (ofN ((nds f).take j))) ∧ Kp w v wr x
set_option maxHeartbeats 8000000 in
set_option maxRecDepth 100000 in
theorem putList_any (k : Nat) : ∀ (f : Fo) (A : Option Addr) (c : Nat) (v : Value) (bs : List UInt8) (w0 w : World), cnt f ≤ k → Nam w0 → RdS w0 w0.heap.size A f → may f = true → len f ≤ maxLen → OwB w0 w v bs → bs.length + 24 * wt f ≤ 60000000 →
    Calls Tryz.prog 21 #[v, .slice A (len f) c] w (Wrote w0 w v (bs ++ enc f)) := by
  induction k using Nat.strongRecOn with
  | ind k ih =>
    intro f A c v bs w0 w hk hN hr hm hlen ho hl
    have hvok := hr.vok
    unfold maxLen at hlen
    have HR := Lib.hid hr
    have HIH := Lib.hid ih
    have HN := Lib.hid hN
    have HM := Lib.hid hm
    have HV := Lib.hid hvok
    have HO := Lib.hid ho
    clear ih hr hN hm hvok ho
    unfold Wrote
    go_enter Tryz.func21, Tryz.ntmps21
    go_wp2_with fail
    go_loopw [0, 9] (fun x i wr => PtL f w0 v w bs x i wr) (fun _ i _ => len f - (intOf i).toNat)
    case atStart => exact ⟨0, Nat.zero_le _, rfl, by simpa [ofN, enc] using HO.out, Kp.refl_⟩
    case round =>
      obtain ⟨j, hj, rfl, hoj, hkj⟩ := hrel
      have HOj := Lib.hid hoj
      have HKj := Lib.hid hkj
      by_cases hlt : j < len f
      · obtain ⟨b, o, n, p, rfl, hn, hat0⟩ := HR.out.at_ hlt
        have hbel := hoj.below
        obtain ⟨q0, q1, q2, q3, q4, q5, q6, q7, q8⟩ := (hat0.below hbel).nine
        have hb := Nat.lt_of_lt_of_le hat0.lt hbel.size
        have hmem : n ∈ nds f := List.mem_of_getElem? hn
        have hok := hat0.ok
        have hmn : mayN n = true := by have := HM.out; rw [may_nds] at this; exact List.all_eq_true.1 this n hmem
        unfold mayN at hmn
        rw [Bool.and_eq_true, Bool.and_eq_true] at hmn
        have hvn := (vok_nds f).1 HV.out n hmem
        have hws := wt_step hn
        have e1 := enc_len _ (may_take HM.out j) (vok_take HV.out j)
        have e2 := enc_len n.body hmn.1.2 hvn.2.1
        have e3 := enc_len n.els hmn.2 hvn.2.2
        have hB : PutsL w0 n.body p.Ab p.cb := fun v' bs' w' ho' hl' => HIH.out _ (Nat.lt_of_lt_of_le (cnt_mem hmem).1 hk) n.body p.Ab p.cb v' bs' w0 w' (Nat.le_refl _) HN.out hok.body hmn.1.2 (Nat.le_trans hok.num.hb hok.num.cb) ho' hl'
        have hE : PutsL w0 n.els p.Ae p.ce := fun v' bs' w' ho' hl' => HIH.out _ (Nat.lt_of_lt_of_le (cnt_mem hmem).2 hk) n.els p.Ae p.ce v' bs' w0 w' (Nat.le_refl _) HN.out hok.els hmn.2 (Nat.le_trans hok.num.he hok.num.ce) ho' hl'
        have HP := Lib.hid (fun w' (ho' : OwB w0 w' u0 (bs ++ enc (ofN ((nds f).take j)))) => putIns_any n p u0 _ w0 w' HN.out hok hmn.1.1 hB hE ho' e2 e3 (by simp only [List.length_append]; omega))
        have HS := Lib.hid (enc_step hn)
        clear hat0 hbel hmem hok hmn hvn hws e1 e2 e3 hB hE hoj hkj hn HIH
        go_wp2_with (first
          | (go_at_call 33; (with_reducible refine (HP.out _ (HOj.out.later ((Below.refl _ _).alloc (Nat.le_refl _) _))).mono ?_); rintro e w1 ⟨v1, rfl, ho1, hk1⟩; have HO1 := Lib.hid ho1; have HK1 := Lib.hid ((HKj.out.alloc _).trans hk1); clear ho1 hk1))
        go_roundw
        case rel => exact ⟨j + 1, by omega, by go_num, by rw [HS.out, ← List.append_assoc]; exact HO1.out, HK1.out⟩
        case measure => simp [intOf]; omega
      · have hT := List.take_of_length_le (l := nds f) (i := j) (by unfold len at *; omega)
        rw [hT, ofN_nds] at HOj
        clear hoj hkj
        go_wp2_with fail
        go_ret
        exact ⟨_, rfl, HOj.out, HKj.out⟩

/-- expr.Put of what may not be. -/
theorem Put_not (f : Fo) (A : Option Addr) (c : Nat) (w : World) (hN : Nam w) (hr : RdS w w.heap.size A f) (hlen : len f ≤ maxLen) (hm : may f = false) :
    Calls Tryz.prog 10 #[.slice A (len f) c] w fun e w' => e = .returned (.tuple #[.slice none 0 0, .iface 32 (.int .i64 1)]) ∧ Below w.heap.size w w' := by
  have HM := Lib.hid (May_any (cnt f) f A c w (Nat.le_refl _) hN hr hlen)
  rw [hm] at HM
  clear hN hr hlen hm
  go_enter Tryz.func10, Tryz.ntmps10
  go_wp2_with (first | (go_at_call 20; (with_reducible refine HM.out.mono ?_); rintro e w1 ⟨rfl, hb1⟩; have HB := Lib.hid hb1; clear hb1))
  go_ret2
  exact ⟨rfl, HB.out⟩
set_option maxHeartbeats 4000000 in
set_option maxRecDepth 100000 in
/-- expr.Put of what may be: its bytes, in memory of its own. -/
theorem Put_may (f : Fo) (A : Option Addr) (c : Nat) (w : World) (hN : Nam w) (hr : RdS w w.heap.size A f) (hlen : len f ≤ maxLen) (hm : may f = true) (hl : wt f ≤ 2200000) :
    Calls Tryz.prog 10 #[.slice A (len f) c] w fun e w' => ∃ v', e = .returned (.tuple #[v', .nilIface]) ∧ OwB w w' v' (enc f ++ [11]) := by
  have HM := Lib.hid (May_any (cnt f) f A c w (Nat.le_refl _) hN hr hlen)
  rw [hm] at HM
  have hvok := hr.vok
  have he := enc_len f hm hvok
  have HP := Lib.hid (fun w' (hb : Below w.heap.size w w') => putList_any (cnt f) f A c (.slice none 0 0) [] w w' (Nat.le_refl _) hN hr hm hlen (OwnK.nil_ _ _ _ _ hb hb.size) (by simp; omega))
  clear hN hr hlen hm hvok
  go_enter Tryz.func10, Tryz.ntmps10
  go_wp2_with (first
    | (go_at_call 20; (with_reducible refine HM.out.mono ?_); rintro e w1 ⟨rfl, hb1⟩; have HB := Lib.hid hb1; clear hb1)
    | (go_at_call 21; (with_reducible refine (HP.out _ HB.out).mono ?_); rintro e w2 ⟨v2, rfl, ho2, -⟩; rw [List.nil_append] at ho2; have HO2 := Lib.hid ho2; clear ho2)
    | (at_builtin; refine wpl_bytes rfl (.tmp 9) (.tmp 10) rfl [11] rfl (HO2.out.later ((Below.refl _ _).alloc (Nat.le_refl _) _)) rfl (Sl.newbyte _ _ _ rfl _ _ (by simp)) rfl (by omega) ?_; intro v3 w3 ho3 hk3; have HO3 := Lib.hid ho3; clear ho3 hk3))
  go_ret2
  exact ⟨_, rfl, HO3.out⟩
end Go.Proofs.YtbhniddgkdldlaaGreatDoor
