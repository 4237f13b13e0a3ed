/- The contract of num.Eval: for every operation and every row of arguments. -/
import Derived.Test.YtdenmbigdklhkaaDoorNumD
import Derived.Test.YtdenmbigdklhkaaDoorNumE
import Derived.Test.YtdenmbigdklhkaaDoorNumG
namespace Go.Proofs.YtdenmbigdklhkaaDoor
open Go.RowKit

namespace Num
/-- of how many bits the arguments are. -/
def bitsOf (op : Int) : Nat := if (80 ≤ op ∧ op ≤ 90) ∨ (121 ≤ op ∧ op ≤ 138) ∨ op = 167 then 64 else 32
/-- what an operation makes of one argument. -/
def ev1 (op a : Int) : Int :=
  if op = 69 ∨ op = 80 then tr (decide (a = 0)) else if op = 167 then a % 4294967296 else if op = 172 then sg 32 a % 18446744073709551616 else if op = 173 then a
  else if op < 106 then cntV (op - 103).toNat 32 a else cntV (op - 121).toNat 64 a
/-- what it makes of two, and the trap. -/
def ev2 (op a b : Int) : Int × Int :=
  if op < 80 then (tr (cmpV (op - 70).toNat 32 a b), 0) else if op < 91 then (tr (cmpV (op - 81).toNat 64 a b), 0)
  else if op < 121 then twoV (op - 106).toNat 32 a b else twoV (op - 124).toNat 64 a b
end Num

theorem ofOne_any (op a : Int) (w : World) (hm : Num.many op = 1) (ha : 0 ≤ a ∧ a < 2 ^ Num.bitsOf op) (hT : TabT w) :
    Calls Tryd.prog 18 #[.int .i64 (Num.nrw op).1, .int .i64 (Num.nrw op).2, .int .u64 a] w fun e w' => e = .returned (.int .u64 (Num.ev1 op a)) ∧ w = w' := by
  have h := many_one op hm
  by_cases c0 : op = 69
  · subst c0; exact one_eqz32 a w
  by_cases c1 : op = 80
  · subst c1; exact one_eqz64 a w
  by_cases c2 : op = 167
  · subst c2; exact one_wrap a w ha
  by_cases c3 : op = 172
  · subst c3; exact one_ext a w ha
  by_cases c4 : op = 173
  · subst c4; exact one_extU a w
  by_cases c5 : op < 106
  · have e1 : Num.nrw op = (op, 32) := by unfold Num.nrw; rw [if_pos (by omega)]
    have e2 : Num.ev1 op a = Num.cntV (op - 103).toNat 32 a := by unfold Num.ev1; rw [if_neg (by omega), if_neg c2, if_neg c3, if_neg c4, if_pos c5]
    have e3 : Num.bitsOf op = 32 := by unfold Num.bitsOf; rw [if_neg (by omega)]
    rw [e3] at ha
    have hc := one_cnt32 (op - 103).toNat a w (by omega) ha hT
    rw [e1, e2]
    rw [show (((op - 103).toNat : Nat) : Int) + 103 = op by omega] at hc
    exact hc
  · have e1 : Num.nrw op = (op - 18, 64) := by unfold Num.nrw; rw [if_neg (by omega), if_neg (by omega), if_pos (by omega)]
    have e2 : Num.ev1 op a = Num.cntV (op - 121).toNat 64 a := by unfold Num.ev1; rw [if_neg (by omega), if_neg c2, if_neg c3, if_neg c4, if_neg c5]
    have e3 : Num.bitsOf op = 64 := by unfold Num.bitsOf; rw [if_pos (by omega)]
    rw [e3] at ha
    have hc := one_cnt64 (op - 121).toNat a w (by omega) ha hT
    rw [e1, e2]
    rw [show (((op - 121).toNat : Nat) : Int) + 103 = op - 18 by omega] at hc
    exact hc

theorem ofTwo_any (op a b : Int) (w : World) (hm : Num.many op = 2) (ha : 0 ≤ a ∧ a < 2 ^ Num.bitsOf op) (hb : 0 ≤ b ∧ b < 2 ^ Num.bitsOf op) :
    Calls Tryd.prog 19 #[.int .i64 (Num.nrw op).1, .int .i64 (Num.nrw op).2, .int .u64 a, .int .u64 b] w fun e w' => e = .returned (.tuple #[.int .u64 (Num.ev2 op a b).1, .int .i64 (Num.ev2 op a b).2]) ∧ ∃ nq, w' = w.drewN nq := by
  have h := many_two op hm
  by_cases c0 : op < 80
  · have e1 : Num.nrw op = (op, 32) := by unfold Num.nrw; rw [if_pos (by omega)]
    have e2 : Num.ev2 op a b = (Num.tr (Num.cmpV (op - 70).toNat 32 a b), 0) := by unfold Num.ev2; rw [if_pos c0]
    have e3 : Num.bitsOf op = 32 := by unfold Num.bitsOf; rw [if_neg (by omega)]
    rw [e3] at ha hb
    rw [e1, e2]
    exact two_cmp32 op (op - 70).toNat a b w (by omega) (by omega) ha hb
  by_cases c1 : op < 91
  · have e1 : Num.nrw op = (op - 11, 64) := by unfold Num.nrw; rw [if_neg (by omega), if_pos (by omega)]
    have e2 : Num.ev2 op a b = (Num.tr (Num.cmpV (op - 81).toNat 64 a b), 0) := by unfold Num.ev2; rw [if_neg c0, if_pos c1]
    have e3 : Num.bitsOf op = 64 := by unfold Num.bitsOf; rw [if_pos (by omega)]
    rw [e3] at ha hb
    rw [e1, e2]
    exact two_cmp64 (op - 11) (op - 81).toNat a b w (by omega) (by omega) ha hb
  by_cases c2 : op < 121
  · have e1 : Num.nrw op = (op, 32) := by unfold Num.nrw; rw [if_pos (by omega)]
    have e2 : Num.ev2 op a b = Num.twoV (op - 106).toNat 32 a b := by unfold Num.ev2; rw [if_neg c0, if_neg c1, if_pos c2]
    have e3 : Num.bitsOf op = 32 := by unfold Num.bitsOf; rw [if_neg (by omega)]
    rw [e3] at ha hb
    rw [e1, e2]
    exact ofTwo32 op (op - 106).toNat a b w (by omega) (by omega) ha hb
  · have e1 : Num.nrw op = (op - 18, 64) := by unfold Num.nrw; rw [if_neg (by omega), if_neg (by omega), if_pos (by omega)]
    have e2 : Num.ev2 op a b = Num.twoV (op - 124).toNat 64 a b := by unfold Num.ev2; rw [if_neg c0, if_neg c1, if_neg c2]
    have e3 : Num.bitsOf op = 64 := by unfold Num.bitsOf; rw [if_pos (by omega)]
    rw [e3] at ha hb
    rw [e1, e2]
    exact ofTwo64 (op - 18) (op - 124).toNat a b w (by omega) (by omega) ha hb

theorem fit_any (op : Int) (A : Option Addr) (c : Nat) (zs : List Int) (w : World) (hm : Num.many op ≠ 0) (hs : Sl w w.heap.size A (u64s zs)) (hc : zs.length ≤ c) (hx : c ≤ maxLen) (hz : ∀ z ∈ zs, 0 ≤ z ∧ z < 18446744073709551616) :
    Calls Tryd.prog 17 #[.slice A zs.length c, .int .i64 (Num.nrw op).2] w fun e w' => e = .returned (.bool (fitB (Num.bitsOf op) zs)) ∧ w = w' := by
  have h : op = 69 ∨ op = 80 ∨ (103 ≤ op ∧ op ≤ 105) ∨ (121 ≤ op ∧ op ≤ 123) ∨ op = 167 ∨ op = 172 ∨ op = 173 ∨ (70 ≤ op ∧ op ≤ 79) ∨ (81 ≤ op ∧ op ≤ 90) ∨ (106 ≤ op ∧ op ≤ 120) ∨ (124 ≤ op ∧ op ≤ 138) := by
    rcases many_cases op with h | h | h
    · have := many_one op h; omega
    · have := many_two op h; omega
    · exact absurd h hm
  by_cases hb : (80 ≤ op ∧ op ≤ 90) ∨ (121 ≤ op ∧ op ≤ 138) ∨ op = 167
  · have e1 : (Num.nrw op).2 = 64 := by
      unfold Num.nrw
      repeat' split
      all_goals first | rfl | omega
    have e2 : Num.bitsOf op = 64 := by unfold Num.bitsOf; rw [if_pos hb]
    rw [e1, e2]
    exact fit64 A c zs w hs hc hx hz
  · have e1 : (Num.nrw op).2 = 32 := by
      unfold Num.nrw
      repeat' split
      all_goals first | rfl | omega
    have e2 : Num.bitsOf op = 32 := by unfold Num.bitsOf; rw [if_neg hb]
    rw [e1, e2]
    exact fit32 A c zs w hs hc hx hz

/-- what num.Eval returns where something is amiss. -/
def evalErr : Value := .tuple #[.int .u64 0, .int .i64 0, .iface 33 (.int .i64 1)]
def evalOk (v t : Int) : Value := .tuple #[.int .u64 v, .int .i64 t, .nilIface]

theorem quiet_more {P : Program} {f : FuncId} {args : Array Value} {w : World} {n : Nat} {v : Value}
    (h : Calls P f args (w.drewN n) fun e w' => e = .returned v ∧ ∃ nq, w' = (w.drewN n).drewN nq) : Calls P f args (w.drewN n) fun e w'' => e = .returned v ∧ ∃ m, w'' = w.drewN m :=
  h.mono fun _ _ ⟨he, m, hm⟩ => ⟨he, n + m, by rw [hm, World.drewN_drewN]⟩

set_option maxHeartbeats 4000000 in
set_option maxRecDepth 100000 in
theorem Eval_none (op : Int) (A : Option Addr) (n c : Nat) (w : World) (h0 : -9223372036854775808 ≤ op) (h1 : op ≤ 9223372036854775807) (h : Num.many op = 0 ∨ (n : Int) ≠ Num.many op) :
    Calls Tryd.prog 13 #[.int .i64 op, .slice A n c] w fun e w' => e = .returned evalErr ∧ ∃ nq, w' = w.drewN nq := by
  have HN := Lib.hid (fun w => narrow_any op w h0 h1)
  have HA := Lib.hid (fun w => Args_any op w h0 h1)
  obtain ⟨s, hs1⟩ : ∃ s, s = (Num.nrw op).1 := ⟨_, rfl⟩
  obtain ⟨v, hs2⟩ : ∃ v, v = (Num.nrw op).2 := ⟨_, rfl⟩
  rw [← hs1, ← hs2] at HN
  unfold argsR at HA
  obtain ⟨m, hm⟩ : ∃ m, m = Num.many op := ⟨_, rfl⟩
  rw [← hm] at HA h
  clear hs1 hs2 hm h0 h1
  unfold evalErr
  by_cases hz : m = 0
  · subst hz
    have e : decide ((0 : Int) ≠ 0) = false := by simp
    rw [e] at HA
    clear e h
    go_enter Tryd.func13, Tryd.ntmps13
    go_wp2_with (first | (go_at_call 16; refine (HN.out _).mono ?_; rintro e w' ⟨rfl, rfl⟩) | (go_at_call 11; refine (HA.out _).mono ?_; rintro e w' ⟨rfl, rfl⟩))
    go_ret3
    exact ⟨rfl, 0, rfl⟩
  · have e : decide (m ≠ 0) = true := by simp [hz]
    rw [e] at HA
    have t : ((n : Int) != m) = true := by simp; omega
    clear e h hz
    go_enter Tryd.func13, Tryd.ntmps13
    go_wp2_with (first | (go_at_call 16; refine (HN.out _).mono ?_; rintro e w' ⟨rfl, rfl⟩) | (go_at_call 11; refine (HA.out _).mono ?_; rintro e w' ⟨rfl, rfl⟩))
    go_ret3
    exact ⟨rfl, 0, rfl⟩

set_option maxHeartbeats 4000000 in
set_option maxRecDepth 100000 in
theorem Eval_unfit (op : Int) (A : Option Addr) (c : Nat) (zs : List Int) (w : World) (h0 : -9223372036854775808 ≤ op) (h1 : op ≤ 9223372036854775807) (hn : Num.many op ≠ 0) (hl : (zs.length : Int) = Num.many op)
    (hs : Sl w w.heap.size A (u64s zs)) (hc : zs.length ≤ c) (hx : c ≤ maxLen) (hz : ∀ z ∈ zs, 0 ≤ z ∧ z < 18446744073709551616) (hf : fitB (Num.bitsOf op) zs = false) :
    Calls Tryd.prog 13 #[.int .i64 op, .slice A zs.length c] w fun e w' => e = .returned evalErr ∧ ∃ nq, w' = w.drewN nq := by
  have HN := Lib.hid (fun w => narrow_any op w h0 h1)
  have HA := Lib.hid (fun w => Args_any op w h0 h1)
  have HF := Lib.hid (fit_any op A c zs w hn hs hc hx hz)
  rw [hf] at HF
  obtain ⟨s, hs1⟩ : ∃ s, s = (Num.nrw op).1 := ⟨_, rfl⟩
  obtain ⟨v, hs2⟩ : ∃ v, v = (Num.nrw op).2 := ⟨_, rfl⟩
  rw [← hs1, ← hs2] at HN
  rw [← hs2] at HF
  unfold argsR at HA
  obtain ⟨m, hm⟩ : ∃ m, m = Num.many op := ⟨_, rfl⟩
  rw [← hm] at HA hn hl
  have e : decide (m ≠ 0) = true := by simp [hn]
  rw [e] at HA
  clear hs1 hs2 hm h0 h1 hs hz hf e hn
  unfold evalErr
  obtain ⟨k, hk⟩ : ∃ k, k = zs.length := ⟨_, rfl⟩
  rw [← hk] at hl HF hc ⊢
  subst hl
  have t : ((k : Int) != (k : Int)) = false := by simp
  clear hk
  go_enter Tryd.func13, Tryd.ntmps13
  go_wp2_with (first | (go_at_call 16; refine (HN.out _).mono ?_; rintro e w' ⟨rfl, rfl⟩) | (go_at_call 11; refine (HA.out _).mono ?_; rintro e w' ⟨rfl, rfl⟩) | (go_at_call 17; refine HF.out.mono ?_; rintro e w' ⟨rfl, rfl⟩))
  go_ret3
  exact ⟨rfl, 0, rfl⟩

set_option maxHeartbeats 4000000 in
set_option maxRecDepth 100000 in
theorem Eval_one (op a : Int) (A : Option Addr) (c : Nat) (w : World) (h0 : -9223372036854775808 ≤ op) (h1 : op ≤ 9223372036854775807) (hn : Num.many op = 1)
    (hs : Sl w w.heap.size A (u64s [a])) (hc : 1 ≤ c) (hx : c ≤ maxLen) (ha : 0 ≤ a ∧ a < 2 ^ Num.bitsOf op) (hT : TabT w) :
    Calls Tryd.prog 13 #[.int .i64 op, .slice A 1 c] w fun e w' => e = .returned (evalOk (Num.ev1 op a) 0) ∧ ∃ nq, w' = w.drewN nq := by
  have hb : (2 : Int) ^ Num.bitsOf op ≤ 18446744073709551616 := by unfold Num.bitsOf; split <;> decide
  have HN := Lib.hid (fun w => narrow_any op w h0 h1)
  have HA := Lib.hid (fun w => Args_any op w h0 h1)
  have HF := Lib.hid (fit_any op A c [a] w (by omega) hs hc hx (fun z hz => by simp at hz; subst hz; omega))
  have hf : fitB (Num.bitsOf op) [a] = true := by simp [fitB, ha.2]
  rw [hf] at HF
  have HO := Lib.hid (ofOne_any op a w hn ha hT)
  obtain ⟨b, off, rfl, hbl, hcell⟩ := hs (by simp [u64s])
  have hc0 := hcell 0 (by simp)
  have hc1 : w.cell? ⟨b, off, none⟩ = some (.int .u64 a) := hc0
  unfold argsR at HA
  rw [hn] at HA
  have e : decide ((1 : Int) ≠ 0) = true := by simp
  rw [e] at HA
  unfold evalOk
  obtain ⟨s, hs1⟩ : ∃ s, s = (Num.nrw op).1 := ⟨_, rfl⟩
  obtain ⟨v, hs2⟩ : ∃ v, v = (Num.nrw op).2 := ⟨_, rfl⟩
  obtain ⟨r, hr⟩ : ∃ r, r = Num.ev1 op a := ⟨_, rfl⟩
  rw [← hs1, ← hs2] at HN HO
  rw [← hs2] at HF
  rw [← hr] at HO ⊢
  rw [show ([a] : List Int).length = 1 from rfl] at HF
  unfold maxLen at hx
  clear hs1 hs2 hr h0 h1 hf e hn hb ha hT hcell hc0 hs
  go_enter Tryd.func13, Tryd.ntmps13
  go_wp2_with (first | (go_at_call 16; refine (HN.out _).mono ?_; rintro e w' ⟨rfl, rfl⟩) | (go_at_call 11; refine (HA.out _).mono ?_; rintro e w' ⟨rfl, rfl⟩) | (go_at_call 17; refine HF.out.mono ?_; rintro e w' ⟨rfl, rfl⟩) | (go_at_call 18; refine HO.out.mono ?_; rintro e w' ⟨rfl, rfl⟩))
  go_ret3
  exact ⟨rfl, 0, rfl⟩

set_option maxHeartbeats 4000000 in
set_option maxRecDepth 100000 in
theorem Eval_two (op a b : Int) (A : Option Addr) (c : Nat) (w : World) (h0 : -9223372036854775808 ≤ op) (h1 : op ≤ 9223372036854775807) (hn : Num.many op = 2)
    (hs : Sl w w.heap.size A (u64s [a, b])) (hc : 2 ≤ c) (hx : c ≤ maxLen) (ha : 0 ≤ a ∧ a < 2 ^ Num.bitsOf op) (hb : 0 ≤ b ∧ b < 2 ^ Num.bitsOf op) :
    Calls Tryd.prog 13 #[.int .i64 op, .slice A 2 c] w fun e w' => e = .returned (evalOk (Num.ev2 op a b).1 (Num.ev2 op a b).2) ∧ ∃ nq, w' = w.drewN nq := by
  have hle : (2 : Int) ^ Num.bitsOf op ≤ 18446744073709551616 := by unfold Num.bitsOf; split <;> decide
  have HN := Lib.hid (fun w => narrow_any op w h0 h1)
  have HA := Lib.hid (fun w => Args_any op w h0 h1)
  have HF := Lib.hid (fit_any op A c [a, b] w (by omega) hs hc hx (fun z hz => by simp at hz; rcases hz with rfl | rfl <;> omega))
  have hf : fitB (Num.bitsOf op) [a, b] = true := by simp [fitB, ha.2, hb.2]
  rw [hf] at HF
  have HO := Lib.hid (fun w => ofTwo_any op a b w hn ha hb)
  obtain ⟨bl, off, rfl, hbl, hcell⟩ := hs (by simp [u64s])
  have hc0 : w.cell? ⟨bl, off, none⟩ = some (.int .u64 a) := hcell 0 (by simp)
  have hc1 : w.cell? ⟨bl, off + 1, none⟩ = some (.int .u64 b) := hcell 1 (by simp)
  unfold argsR at HA
  rw [hn] at HA
  have e : decide ((2 : Int) ≠ 0) = true := by simp
  rw [e] at HA
  unfold evalOk
  obtain ⟨s, hs1⟩ : ∃ s, s = (Num.nrw op).1 := ⟨_, rfl⟩
  obtain ⟨v, hs2⟩ : ∃ v, v = (Num.nrw op).2 := ⟨_, rfl⟩
  obtain ⟨r, hr⟩ : ∃ r, r = (Num.ev2 op a b).1 := ⟨_, rfl⟩
  obtain ⟨t, ht⟩ : ∃ t, t = (Num.ev2 op a b).2 := ⟨_, rfl⟩
  rw [← hs1, ← hs2] at HN HO
  rw [← hs2] at HF
  rw [← hr, ← ht] at HO ⊢
  rw [show ([a, b] : List Int).length = 2 from rfl] at HF
  unfold maxLen at hx
  clear hs1 hs2 hr ht h0 h1 hf e hn hb ha hcell hs hle
  go_enter Tryd.func13, Tryd.ntmps13
  go_wp2_with (first | (go_at_call 16; refine (HN.out _).mono ?_; rintro e w' ⟨rfl, rfl⟩) | (go_at_call 11; refine (HA.out _).mono ?_; rintro e w' ⟨rfl, rfl⟩) | (go_at_call 17; refine HF.out.mono ?_; rintro e w' ⟨rfl, rfl⟩))
  go_quiet (first | (go_at_call 19; exact quiet_more (HO.out _)))
  go_wp2
  go_ret3
  exact ⟨rfl, _, rfl⟩

end Go.Proofs.YtdenmbigdklhkaaDoor
