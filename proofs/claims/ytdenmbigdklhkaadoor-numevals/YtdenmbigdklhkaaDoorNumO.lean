/- grommetlaw03.NumEvals returns true for every input. -/
import Derived.Test.YtdenmbigdklhkaaDoorNumI
import Derived.Test.YtdenmbigdklhkaaDoorRefH
import Derived.Test.YtdenmbigdklhkaaDoorErrs
namespace Go.Proofs.YtdenmbigdklhkaaDoor
open Go.RowKit

theorem refMany_pos {op : Int} {m : Int} (h : Num.many op = m) (hm : m ≠ 0) : refMany op = m := by simp [refMany, h, hm]
theorem refMany_zero {op : Int} (h : Num.many op = 0) : refMany op = -1 := by simp [refMany, h]

set_option maxHeartbeats 4000000 in
set_option maxRecDepth 100000 in
theorem evals_none (op : Int) (A : Option Addr) (n c : Nat) (w : World) (o0 : -9223372036854775808 ≤ op) (o1 : op ≤ 9223372036854775807) (hn : n ≤ 100) (h : Num.many op = 0 ∨ (n : Int) ≠ Num.many op) :
    Calls Tryd.prog 4 #[.int .i64 op, .slice A n c] w fun e w' => e = .returned (.bool true) ∧ Below w.heap.size w w' := by
  have HE := Lib.hid (fun w => Eval_none op A n c w o0 o1 h)
  have HR := Lib.hid (fun w => rArgs_any op w)
  have hr : refMany op = -1 ∨ (0 ≤ refMany op ∧ ¬ refMany op = n) := by
    unfold refMany
    rcases many_cases op with h1 | h1 | h1
    · right; rw [h1] at h ⊢; simp; omega
    · right; rw [h1] at h ⊢; simp; omega
    · left; simp [h1]
  obtain ⟨m, hm⟩ : ∃ m, m = refMany op := ⟨_, rfl⟩
  rw [← hm] at HR hr
  clear hm h o0 o1
  unfold evalErr at HE
  have heq := fun wx => run_eql_code wx 1 1
  rcases hr with rfl | ⟨h1, h2⟩
  all_goals
    try have t1 : (m == (n : Int)) = false := by simp [h2]
    try clear h2
    go_enter Tryd.func4, Tryd.ntmps4
    go_wp2_with fail
    refine (up_any _).mono ?_
    rintro e w1 ⟨rfl, hb1⟩
    go_wp2_with fail
    refine (HE.out _).mono ?_
    rintro e w2 ⟨rfl, nq, rfl⟩
    have hb2 := below_drewN hb1 nq
    clear hb1
    go_wp2_with (go_at_call 12; refine (HR.out _).mono ?_; rintro e w' ⟨rfl, rfl⟩)
    refine wp_loop_rounds 1 ?_
    rw [rounds_succ]
    go_wp2
    all_goals
      go_ret
      exact ⟨rfl, hb2⟩


set_option maxHeartbeats 4000000 in
set_option maxRecDepth 100000 in
theorem evals1_32 (op a : Int) (A : Option Addr) (c : Nat) (w : World) (o0 : -9223372036854775808 ≤ op) (o1 : op ≤ 9223372036854775807) (hn : Num.many op = 1) (hbits : Num.bitsOf op = 32)
    (hs : Sl w w.heap.size A (u64s [a])) (hc : 1 ≤ c) (hx : c ≤ maxLen) (ha : 0 ≤ a ∧ a < 18446744073709551616) (fa : a < 4294967296) (hT : TabT w) :
    Calls Tryd.prog 4 #[.int .i64 op, .slice A 1 c] w fun e w' => e = .returned (.bool true) ∧ Below w.heap.size w w' := by
  have HE := Lib.hid (fun w hs hT => Eval_one op a A c w o0 o1 hn hs hc hx ⟨ha.1, by rw [hbits]; exact fa⟩ hT)
  have HQ := Lib.hid (fun w hs => rEval_one op a A c w hn hs hc hx ⟨ha.1, by rw [hbits]; exact fa⟩)
  obtain ⟨v, hv⟩ : ∃ v, v = Num.ev1 op a := ⟨_, rfl⟩
  rw [← hv] at HE HQ
  clear hv
  have t1 : (v == v) = true := by simp
  unfold evalOk at HE
  unfold refOk at HQ
  have HR := Lib.hid (fun w => rArgs_any op w)
  rw [refMany_pos hn (by decide)] at HR
  have HB := Lib.hid (fun w => rBits_any op w)
  rw [hbits, show ((32 : Nat) : Int) = 32 from rfl] at HB
  have HS := Lib.hid hs
  have HT := Lib.hid hT
  obtain ⟨bl, off, rfl, hbl, hcell⟩ := hs (by simp [u64s])
  have d0 : w.cell? ⟨bl, off, none⟩ = some (.int .u64 a) := hcell 0 (by simp)
  unfold maxLen at hx
  clear hcell hT hn hbits o0 o1
  obtain ⟨a0, a1⟩ := ha
  have ta : decide (a < 4294967296) = true := by simp; omega
  go_enter Tryd.func4, Tryd.ntmps4
  go_wp2_with fail
  refine (up_any _).mono ?_
  rintro e w1 ⟨rfl, hb1⟩
  have hs1 := HS.out.below hb1
  have HE1 := Lib.hid (HE.out w1 (hs1.more hb1.size) (HT.out.below hb1))
  go_wp2_with fail
  refine HE1.out.mono ?_
  rintro e w2 ⟨rfl, nq, hw2⟩
  have hb2 : Below w.heap.size w w2 := by rw [hw2]; exact below_drewN hb1 nq
  have hs2 := HS.out.below hb2
  have e0 : w2.cell? ⟨bl, off, none⟩ = some (.int .u64 a) := (hb2.cell (p := ⟨bl, off, none⟩) hbl).trans d0
  have HQ1 := Lib.hid (HQ.out w2 (hs2.more hb2.size))
  clear hs1 hs2 hw2 hb1 HE HE1 HS HT
  go_wp2_with (go_at_call 12; refine (HR.out _).mono ?_; rintro e w' ⟨rfl, rfl⟩)
  refine wp_loop_rounds 2 ?_
  rw [rounds_succ]
  go_wp2_with (go_at_call 14; refine (HB.out _).mono ?_; rintro e w' ⟨rfl, rfl⟩)
  rw [rounds_succ]
  go_wp2_with (go_at_call 15; refine HQ1.out.mono ?_; rintro e w' ⟨rfl, rfl⟩)
  go_ret
  exact ⟨rfl, hb2⟩

set_option maxHeartbeats 4000000 in
set_option maxRecDepth 100000 in
theorem evals1_32n (op a : Int) (A : Option Addr) (c : Nat) (w : World) (o0 : -9223372036854775808 ≤ op) (o1 : op ≤ 9223372036854775807) (hn : Num.many op = 1) (hbits : Num.bitsOf op = 32)
    (hs : Sl w w.heap.size A (u64s [a])) (hc : 1 ≤ c) (hx : c ≤ maxLen) (ha : 0 ≤ a ∧ a < 18446744073709551616) (fa : ¬ a < 4294967296) (hT : TabT w) :
    Calls Tryd.prog 4 #[.int .i64 op, .slice A 1 c] w fun e w' => e = .returned (.bool true) ∧ Below w.heap.size w w' := by
  have hf : fitB (Num.bitsOf op) [a] = false := by
    rw [hbits]
    simp [fitB]
    omega
  have HE := Lib.hid (fun w hs => Eval_unfit op A c [a] w o0 o1 (by omega) (by rw [hn]; rfl) hs hc hx (fun z hz => by simp at hz; subst hz <;> omega) hf)
  unfold evalErr at HE
  rw [show ([a] : List Int).length = 1 from rfl] at HE
  have heq := fun wx => run_eql_code wx 1 1
  clear hf
  have HR := Lib.hid (fun w => rArgs_any op w)
  rw [refMany_pos hn (by decide)] at HR
  have HB := Lib.hid (fun w => rBits_any op w)
  rw [hbits, show ((32 : Nat) : Int) = 32 from rfl] at HB
  have HS := Lib.hid hs
  have HT := Lib.hid hT
  obtain ⟨bl, off, rfl, hbl, hcell⟩ := hs (by simp [u64s])
  have d0 : w.cell? ⟨bl, off, none⟩ = some (.int .u64 a) := hcell 0 (by simp)
  unfold maxLen at hx
  clear hcell hT hn hbits o0 o1
  obtain ⟨a0, a1⟩ := ha
  have ta : decide (a < 4294967296) = false := by simp; omega
  go_enter Tryd.func4, Tryd.ntmps4
  go_wp2_with fail
  refine (up_any _).mono ?_
  rintro e w1 ⟨rfl, hb1⟩
  have hs1 := HS.out.below hb1
  have HE1 := Lib.hid (HE.out w1 (hs1.more hb1.size))
  go_wp2_with fail
  refine HE1.out.mono ?_
  rintro e w2 ⟨rfl, nq, hw2⟩
  have hb2 : Below w.heap.size w w2 := by rw [hw2]; exact below_drewN hb1 nq
  have hs2 := HS.out.below hb2
  have e0 : w2.cell? ⟨bl, off, none⟩ = some (.int .u64 a) := (hb2.cell (p := ⟨bl, off, none⟩) hbl).trans d0
  clear hs1 hs2 hw2 hb1 HE HE1 HS HT
  go_wp2_with (go_at_call 12; refine (HR.out _).mono ?_; rintro e w' ⟨rfl, rfl⟩)
  refine wp_loop_rounds 2 ?_
  rw [rounds_succ]
  go_wp2_with (go_at_call 14; refine (HB.out _).mono ?_; rintro e w' ⟨rfl, rfl⟩)
  rw [rounds_succ]
  go_wp2
  go_ret
  exact ⟨rfl, hb2⟩

set_option maxHeartbeats 4000000 in
set_option maxRecDepth 100000 in
theorem evals1_64 (op a : Int) (A : Option Addr) (c : Nat) (w : World) (o0 : -9223372036854775808 ≤ op) (o1 : op ≤ 9223372036854775807) (hn : Num.many op = 1) (hbits : Num.bitsOf op = 64)
    (hs : Sl w w.heap.size A (u64s [a])) (hc : 1 ≤ c) (hx : c ≤ maxLen) (ha : 0 ≤ a ∧ a < 18446744073709551616) (fa : a < 18446744073709551616) (hT : TabT w) :
    Calls Tryd.prog 4 #[.int .i64 op, .slice A 1 c] w fun e w' => e = .returned (.bool true) ∧ Below w.heap.size w w' := by
  have HE := Lib.hid (fun w hs hT => Eval_one op a A c w o0 o1 hn hs hc hx ⟨ha.1, by rw [hbits]; exact fa⟩ hT)
  have HQ := Lib.hid (fun w hs => rEval_one op a A c w hn hs hc hx ⟨ha.1, by rw [hbits]; exact fa⟩)
  obtain ⟨v, hv⟩ : ∃ v, v = Num.ev1 op a := ⟨_, rfl⟩
  rw [← hv] at HE HQ
  clear hv
  have t1 : (v == v) = true := by simp
  unfold evalOk at HE
  unfold refOk at HQ
  have HR := Lib.hid (fun w => rArgs_any op w)
  rw [refMany_pos hn (by decide)] at HR
  have HB := Lib.hid (fun w => rBits_any op w)
  rw [hbits, show ((64 : Nat) : Int) = 64 from rfl] at HB
  have HS := Lib.hid hs
  have HT := Lib.hid hT
  obtain ⟨bl, off, rfl, hbl, hcell⟩ := hs (by simp [u64s])
  have d0 : w.cell? ⟨bl, off, none⟩ = some (.int .u64 a) := hcell 0 (by simp)
  unfold maxLen at hx
  clear hcell hT hn hbits o0 o1
  obtain ⟨a0, a1⟩ := ha
  go_enter Tryd.func4, Tryd.ntmps4
  go_wp2_with fail
  refine (up_any _).mono ?_
  rintro e w1 ⟨rfl, hb1⟩
  have hs1 := HS.out.below hb1
  have HE1 := Lib.hid (HE.out w1 (hs1.more hb1.size) (HT.out.below hb1))
  go_wp2_with fail
  refine HE1.out.mono ?_
  rintro e w2 ⟨rfl, nq, hw2⟩
  have hb2 : Below w.heap.size w w2 := by rw [hw2]; exact below_drewN hb1 nq
  have hs2 := HS.out.below hb2
  have e0 : w2.cell? ⟨bl, off, none⟩ = some (.int .u64 a) := (hb2.cell (p := ⟨bl, off, none⟩) hbl).trans d0
  have HQ1 := Lib.hid (HQ.out w2 (hs2.more hb2.size))
  clear hs1 hs2 hw2 hb1 HE HE1 HS HT
  go_wp2_with (go_at_call 12; refine (HR.out _).mono ?_; rintro e w' ⟨rfl, rfl⟩)
  refine wp_loop_rounds 2 ?_
  rw [rounds_succ]
  go_wp2_with (go_at_call 14; refine (HB.out _).mono ?_; rintro e w' ⟨rfl, rfl⟩)
  rw [rounds_succ]
  go_wp2_with (go_at_call 15; refine HQ1.out.mono ?_; rintro e w' ⟨rfl, rfl⟩)
  go_ret
  exact ⟨rfl, hb2⟩

set_option maxHeartbeats 4000000 in
set_option maxRecDepth 100000 in
theorem evals2_32 (op a b : Int) (A : Option Addr) (c : Nat) (w : World) (o0 : -9223372036854775808 ≤ op) (o1 : op ≤ 9223372036854775807) (hn : Num.many op = 2) (hbits : Num.bitsOf op = 32)
    (hs : Sl w w.heap.size A (u64s [a, b])) (hc : 2 ≤ c) (hx : c ≤ maxLen) (ha : 0 ≤ a ∧ a < 18446744073709551616) (hb : 0 ≤ b ∧ b < 18446744073709551616) (fa : a < 4294967296) (fb : b < 4294967296) (hT : TabT w) :
    Calls Tryd.prog 4 #[.int .i64 op, .slice A 2 c] w fun e w' => e = .returned (.bool true) ∧ Below w.heap.size w w' := by
  have HE := Lib.hid (fun w hs => Eval_two op a b A c w o0 o1 hn hs hc hx ⟨ha.1, by rw [hbits]; exact fa⟩ ⟨hb.1, by rw [hbits]; exact fb⟩)
  have HQ := Lib.hid (fun w hs => rEval_two op a b A c w hn hs hc hx ⟨ha.1, by rw [hbits]; exact fa⟩ ⟨hb.1, by rw [hbits]; exact fb⟩)
  obtain ⟨v, hv⟩ : ∃ v, v = (Num.ev2 op a b).1 := ⟨_, rfl⟩
  obtain ⟨t, ht⟩ : ∃ t, t = (Num.ev2 op a b).2 := ⟨_, rfl⟩
  rw [← hv, ← ht] at HE HQ
  clear hv ht
  have t1 : (v == v) = true := by simp
  have t2 : (t == t) = true := by simp
  unfold evalOk at HE
  unfold refOk at HQ
  have HR := Lib.hid (fun w => rArgs_any op w)
  rw [refMany_pos hn (by decide)] at HR
  have HB := Lib.hid (fun w => rBits_any op w)
  rw [hbits, show ((32 : Nat) : Int) = 32 from rfl] at HB
  have HS := Lib.hid hs
  have HT := Lib.hid hT
  obtain ⟨bl, off, rfl, hbl, hcell⟩ := hs (by simp [u64s])
  have d0 : w.cell? ⟨bl, off, none⟩ = some (.int .u64 a) := hcell 0 (by simp)
  have d1 : w.cell? ⟨bl, off + 1, none⟩ = some (.int .u64 b) := hcell 1 (by simp)
  unfold maxLen at hx
  clear hcell hT hn hbits o0 o1
  obtain ⟨a0, a1⟩ := ha
  obtain ⟨b0, b1⟩ := hb
  have ta : decide (a < 4294967296) = true := by simp; omega
  have tb : decide (b < 4294967296) = true := by simp; omega
  go_enter Tryd.func4, Tryd.ntmps4
  go_wp2_with fail
  refine (up_any _).mono ?_
  rintro e w1 ⟨rfl, hb1⟩
  have hs1 := HS.out.below hb1
  have HE1 := Lib.hid (HE.out w1 (hs1.more hb1.size))
  go_wp2_with fail
  refine HE1.out.mono ?_
  rintro e w2 ⟨rfl, nq, hw2⟩
  have hb2 : Below w.heap.size w w2 := by rw [hw2]; exact below_drewN hb1 nq
  have hs2 := HS.out.below hb2
  have e0 : w2.cell? ⟨bl, off, none⟩ = some (.int .u64 a) := (hb2.cell (p := ⟨bl, off, none⟩) hbl).trans d0
  have e1 : w2.cell? ⟨bl, off + 1, none⟩ = some (.int .u64 b) := (hb2.cell (p := ⟨bl, off + 1, none⟩) hbl).trans d1
  have HQ1 := Lib.hid (HQ.out w2 (hs2.more hb2.size))
  clear hs1 hs2 hw2 hb1 HE HE1 HS HT
  go_wp2_with (go_at_call 12; refine (HR.out _).mono ?_; rintro e w' ⟨rfl, rfl⟩)
  refine wp_loop_rounds 3 ?_
  rw [rounds_succ]
  go_wp2_with (go_at_call 14; refine (HB.out _).mono ?_; rintro e w' ⟨rfl, rfl⟩)
  rw [rounds_succ]
  go_wp2_with (go_at_call 14; refine (HB.out _).mono ?_; rintro e w' ⟨rfl, rfl⟩)
  rw [rounds_succ]
  go_wp2_with (go_at_call 15; refine HQ1.out.mono ?_; rintro e w' ⟨rfl, rfl⟩)
  go_ret
  exact ⟨rfl, hb2⟩

set_option maxHeartbeats 4000000 in
set_option maxRecDepth 100000 in
theorem evals2_32n (op a b : Int) (A : Option Addr) (c : Nat) (w : World) (o0 : -9223372036854775808 ≤ op) (o1 : op ≤ 9223372036854775807) (hn : Num.many op = 2) (hbits : Num.bitsOf op = 32)
    (hs : Sl w w.heap.size A (u64s [a, b])) (hc : 2 ≤ c) (hx : c ≤ maxLen) (ha : 0 ≤ a ∧ a < 18446744073709551616) (hb : 0 ≤ b ∧ b < 18446744073709551616) (fa : a < 4294967296) (fb : ¬ b < 4294967296) (hT : TabT w) :
    Calls Tryd.prog 4 #[.int .i64 op, .slice A 2 c] w fun e w' => e = .returned (.bool true) ∧ Below w.heap.size w w' := by
  have hf : fitB (Num.bitsOf op) [a, b] = false := by
    rw [hbits]
    simp [fitB]
    omega
  have HE := Lib.hid (fun w hs => Eval_unfit op A c [a, b] w o0 o1 (by omega) (by rw [hn]; rfl) hs hc hx (fun z hz => by simp at hz; rcases hz with rfl | rfl <;> omega) hf)
  unfold evalErr at HE
  rw [show ([a, b] : List Int).length = 2 from rfl] at HE
  have heq := fun wx => run_eql_code wx 1 1
  clear hf
  have HR := Lib.hid (fun w => rArgs_any op w)
  rw [refMany_pos hn (by decide)] at HR
  have HB := Lib.hid (fun w => rBits_any op w)
  rw [hbits, show ((32 : Nat) : Int) = 32 from rfl] at HB
  have HS := Lib.hid hs
  have HT := Lib.hid hT
  obtain ⟨bl, off, rfl, hbl, hcell⟩ := hs (by simp [u64s])
  have d0 : w.cell? ⟨bl, off, none⟩ = some (.int .u64 a) := hcell 0 (by simp)
  have d1 : w.cell? ⟨bl, off + 1, none⟩ = some (.int .u64 b) := hcell 1 (by simp)
  unfold maxLen at hx
  clear hcell hT hn hbits o0 o1
  obtain ⟨a0, a1⟩ := ha
  obtain ⟨b0, b1⟩ := hb
  have ta : decide (a < 4294967296) = true := by simp; omega
  have tb : decide (b < 4294967296) = false := by simp; omega
  go_enter Tryd.func4, Tryd.ntmps4
  go_wp2_with fail
  refine (up_any _).mono ?_
  rintro e w1 ⟨rfl, hb1⟩
  have hs1 := HS.out.below hb1
  have HE1 := Lib.hid (HE.out w1 (hs1.more hb1.size))
  go_wp2_with fail
  refine HE1.out.mono ?_
  rintro e w2 ⟨rfl, nq, hw2⟩
  have hb2 : Below w.heap.size w w2 := by rw [hw2]; exact below_drewN hb1 nq
  have hs2 := HS.out.below hb2
  have e0 : w2.cell? ⟨bl, off, none⟩ = some (.int .u64 a) := (hb2.cell (p := ⟨bl, off, none⟩) hbl).trans d0
  have e1 : w2.cell? ⟨bl, off + 1, none⟩ = some (.int .u64 b) := (hb2.cell (p := ⟨bl, off + 1, none⟩) hbl).trans d1
  clear hs1 hs2 hw2 hb1 HE HE1 HS HT
  go_wp2_with (go_at_call 12; refine (HR.out _).mono ?_; rintro e w' ⟨rfl, rfl⟩)
  refine wp_loop_rounds 3 ?_
  rw [rounds_succ]
  go_wp2_with (go_at_call 14; refine (HB.out _).mono ?_; rintro e w' ⟨rfl, rfl⟩)
  rw [rounds_succ]
  go_wp2_with (go_at_call 14; refine (HB.out _).mono ?_; rintro e w' ⟨rfl, rfl⟩)
  rw [rounds_succ]
  go_wp2
  go_ret
  exact ⟨rfl, hb2⟩

set_option maxHeartbeats 4000000 in
set_option maxRecDepth 100000 in
theorem evals2_64 (op a b : Int) (A : Option Addr) (c : Nat) (w : World) (o0 : -9223372036854775808 ≤ op) (o1 : op ≤ 9223372036854775807) (hn : Num.many op = 2) (hbits : Num.bitsOf op = 64)
    (hs : Sl w w.heap.size A (u64s [a, b])) (hc : 2 ≤ c) (hx : c ≤ maxLen) (ha : 0 ≤ a ∧ a < 18446744073709551616) (hb : 0 ≤ b ∧ b < 18446744073709551616) (fa : a < 18446744073709551616) (fb : b < 18446744073709551616) (hT : TabT w) :
    Calls Tryd.prog 4 #[.int .i64 op, .slice A 2 c] w fun e w' => e = .returned (.bool true) ∧ Below w.heap.size w w' := by
  have HE := Lib.hid (fun w hs => Eval_two op a b A c w o0 o1 hn hs hc hx ⟨ha.1, by rw [hbits]; exact fa⟩ ⟨hb.1, by rw [hbits]; exact fb⟩)
  have HQ := Lib.hid (fun w hs => rEval_two op a b A c w hn hs hc hx ⟨ha.1, by rw [hbits]; exact fa⟩ ⟨hb.1, by rw [hbits]; exact fb⟩)
  obtain ⟨v, hv⟩ : ∃ v, v = (Num.ev2 op a b).1 := ⟨_, rfl⟩
  obtain ⟨t, ht⟩ : ∃ t, t = (Num.ev2 op a b).2 := ⟨_, rfl⟩
  rw [← hv, ← ht] at HE HQ
  clear hv ht
  have t1 : (v == v) = true := by simp
  have t2 : (t == t) = true := by simp
  unfold evalOk at HE
  unfold refOk at HQ
  have HR := Lib.hid (fun w => rArgs_any op w)
  rw [refMany_pos hn (by decide)] at HR
  have HB := Lib.hid (fun w => rBits_any op w)
  rw [hbits, show ((64 : Nat) : Int) = 64 from rfl] at HB
  have HS := Lib.hid hs
  have HT := Lib.hid hT
  obtain ⟨bl, off, rfl, hbl, hcell⟩ := hs (by simp [u64s])
  have d0 : w.cell? ⟨bl, off, none⟩ = some (.int .u64 a) := hcell 0 (by simp)
  have d1 : w.cell? ⟨bl, off + 1, none⟩ = some (.int .u64 b) := hcell 1 (by simp)
  unfold maxLen at hx
  clear hcell hT hn hbits o0 o1
  obtain ⟨a0, a1⟩ := ha
  obtain ⟨b0, b1⟩ := hb
  go_enter Tryd.func4, Tryd.ntmps4
  go_wp2_with fail
  refine (up_any _).mono ?_
  rintro e w1 ⟨rfl, hb1⟩
  have hs1 := HS.out.below hb1
  have HE1 := Lib.hid (HE.out w1 (hs1.more hb1.size))
  go_wp2_with fail
  refine HE1.out.mono ?_
  rintro e w2 ⟨rfl, nq, hw2⟩
  have hb2 : Below w.heap.size w w2 := by rw [hw2]; exact below_drewN hb1 nq
  have hs2 := HS.out.below hb2
  have e0 : w2.cell? ⟨bl, off, none⟩ = some (.int .u64 a) := (hb2.cell (p := ⟨bl, off, none⟩) hbl).trans d0
  have e1 : w2.cell? ⟨bl, off + 1, none⟩ = some (.int .u64 b) := (hb2.cell (p := ⟨bl, off + 1, none⟩) hbl).trans d1
  have HQ1 := Lib.hid (HQ.out w2 (hs2.more hb2.size))
  clear hs1 hs2 hw2 hb1 HE HE1 HS HT
  go_wp2_with (go_at_call 12; refine (HR.out _).mono ?_; rintro e w' ⟨rfl, rfl⟩)
  refine wp_loop_rounds 3 ?_
  rw [rounds_succ]
  go_wp2_with (go_at_call 14; refine (HB.out _).mono ?_; rintro e w' ⟨rfl, rfl⟩)
  rw [rounds_succ]
  go_wp2_with (go_at_call 14; refine (HB.out _).mono ?_; rintro e w' ⟨rfl, rfl⟩)
  rw [rounds_succ]
  go_wp2_with (go_at_call 15; refine HQ1.out.mono ?_; rintro e w' ⟨rfl, rfl⟩)
  go_ret
  exact ⟨rfl, hb2⟩

set_option maxHeartbeats 4000000 in
set_option maxRecDepth 100000 in
theorem evals2_32m (op a b : Int) (A : Option Addr) (c : Nat) (w : World) (o0 : -9223372036854775808 ≤ op) (o1 : op ≤ 9223372036854775807) (hn : Num.many op = 2) (hbits : Num.bitsOf op = 32)
    (hs : Sl w w.heap.size A (u64s [a, b])) (hc : 2 ≤ c) (hx : c ≤ maxLen) (ha : 0 ≤ a ∧ a < 18446744073709551616) (hb : 0 ≤ b ∧ b < 18446744073709551616) (fa : ¬ a < 4294967296) (hT : TabT w) :
    Calls Tryd.prog 4 #[.int .i64 op, .slice A 2 c] w fun e w' => e = .returned (.bool true) ∧ Below w.heap.size w w' := by
  have hf : fitB (Num.bitsOf op) [a, b] = false := by
    rw [hbits]
    simp [fitB]
    omega
  have HE := Lib.hid (fun w hs => Eval_unfit op A c [a, b] w o0 o1 (by omega) (by rw [hn]; rfl) hs hc hx (fun z hz => by simp at hz; rcases hz with rfl | rfl <;> omega) hf)
  unfold evalErr at HE
  rw [show ([a, b] : List Int).length = 2 from rfl] at HE
  have heq := fun wx => run_eql_code wx 1 1
  clear hf
  have HR := Lib.hid (fun w => rArgs_any op w)
  rw [refMany_pos hn (by decide)] at HR
  have HB := Lib.hid (fun w => rBits_any op w)
  rw [hbits, show ((32 : Nat) : Int) = 32 from rfl] at HB
  have HS := Lib.hid hs
  have HT := Lib.hid hT
  obtain ⟨bl, off, rfl, hbl, hcell⟩ := hs (by simp [u64s])
  have d0 : w.cell? ⟨bl, off, none⟩ = some (.int .u64 a) := hcell 0 (by simp)
  have d1 : w.cell? ⟨bl, off + 1, none⟩ = some (.int .u64 b) := hcell 1 (by simp)
  unfold maxLen at hx
  clear hcell hT hn hbits o0 o1
  obtain ⟨a0, a1⟩ := ha
  obtain ⟨b0, b1⟩ := hb
  have ta : decide (a < 4294967296) = false := by simp; omega
  go_enter Tryd.func4, Tryd.ntmps4
  go_wp2_with fail
  refine (up_any _).mono ?_
  rintro e w1 ⟨rfl, hb1⟩
  have hs1 := HS.out.below hb1
  have HE1 := Lib.hid (HE.out w1 (hs1.more hb1.size))
  go_wp2_with fail
  refine HE1.out.mono ?_
  rintro e w2 ⟨rfl, nq, hw2⟩
  have hb2 : Below w.heap.size w w2 := by rw [hw2]; exact below_drewN hb1 nq
  have hs2 := HS.out.below hb2
  have e0 : w2.cell? ⟨bl, off, none⟩ = some (.int .u64 a) := (hb2.cell (p := ⟨bl, off, none⟩) hbl).trans d0
  have e1 : w2.cell? ⟨bl, off + 1, none⟩ = some (.int .u64 b) := (hb2.cell (p := ⟨bl, off + 1, none⟩) hbl).trans d1
  clear hs1 hs2 hw2 hb1 HE HE1 HS HT
  go_wp2_with (go_at_call 12; refine (HR.out _).mono ?_; rintro e w' ⟨rfl, rfl⟩)
  refine wp_loop_rounds 2 ?_
  rw [rounds_succ]
  go_wp2_with (go_at_call 14; refine (HB.out _).mono ?_; rintro e w' ⟨rfl, rfl⟩)
  rw [rounds_succ]
  go_wp2
  go_ret
  exact ⟨rfl, hb2⟩

set_option maxHeartbeats 2000000 in
set_option maxRecDepth 100000 in
theorem walk_NumEvals (op : Int) (A : Option Addr) (c : Nat) (zs : List Int) (w : World) (ho : (Lit.int .i64 op).wf = true) (hs : Sl w w.heap.size A (zs.map (Value.int .u64))) (hc : zs.length ≤ c) (hm : c ≤ maxLen) (hf : ∀ n ∈ zs, (Lit.int .u64 n).wf = true) (hT : TabT w) :
    Calls Tryd.prog 4 #[.int .i64 op, .slice A zs.length c] w fun e w' => e = .returned (.bool true) ∧ Below w.heap.size w w' := by
  obtain ⟨o0, o1⟩ := bounds_i64 ho
  have hz : ∀ z ∈ zs, 0 ≤ z ∧ z < 18446744073709551616 := fun z hz => by have := bounds_u64 (hf z hz); omega
  replace hs : Sl w w.heap.size A (u64s zs) := hs
  clear ho hf
  by_cases hbig : 100 < zs.length
  · unfold maxLen at hm
    clear hs hz hT o0 o1
    obtain ⟨n, hn⟩ : ∃ n, n = zs.length := ⟨_, rfl⟩
    rw [← hn] at hbig hc ⊢
    clear hn
    go_enter Tryd.func4, Tryd.ntmps4
    go_wp2_with fail
    refine (up_any _).mono ?_
    rintro e w1 ⟨rfl, hb1⟩
    go_wp2
    go_ret
    exact ⟨rfl, hb1⟩
  by_cases hn : Num.many op = 0 ∨ (zs.length : Int) ≠ Num.many op
  · exact evals_none op A zs.length c w o0 o1 (by omega) hn
  have hn0 : Num.many op ≠ 0 := fun h => hn (.inl h)
  have hl : (zs.length : Int) = Num.many op := Classical.byContradiction fun h => hn (.inr h)
  have hb : Num.bitsOf op = 32 ∨ Num.bitsOf op = 64 := by unfold Num.bitsOf; split <;> simp
  rcases many_cases op with h | h | h
  · rw [h] at hl
    match zs, hl with
    | [], hl => simp at hl
    | _ :: _ :: _, hl => simp at hl; omega
    | [a], _ =>
      have ha := hz a (by simp)
      rcases hb with hb | hb
      · by_cases fa : a < 4294967296
        · exact evals1_32 op a A c w o0 o1 h hb hs hc hm ha fa hT
        · exact evals1_32n op a A c w o0 o1 h hb hs hc hm ha fa hT
      · exact evals1_64 op a A c w o0 o1 h hb hs hc hm ha ha.2 hT
  · rw [h] at hl
    match zs, hl with
    | [], hl => simp at hl
    | [_], hl => simp at hl
    | _ :: _ :: _ :: _, hl => simp at hl; omega
    | [a, b], _ =>
      have ha := hz a (by simp)
      have hbb := hz b (by simp)
      rcases hb with hb | hb
      · by_cases fa : a < 4294967296
        · by_cases fb : b < 4294967296
          · exact evals2_32 op a b A c w o0 o1 h hb hs hc hm ha hbb fa fb hT
          · exact evals2_32n op a b A c w o0 o1 h hb hs hc hm ha hbb fa fb hT
        · exact evals2_32m op a b A c w o0 o1 h hb hs hc hm ha hbb fa hT
      · exact evals2_64 op a b A c w o0 o1 h hb hs hc hm ha hbb ha.2 hbb.2 hT
  · exact absurd h hn0

end Go.Proofs.YtdenmbigdklhkaaDoor
