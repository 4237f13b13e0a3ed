/- The contract of grommetref03.Eval. -/
import Derived.Test.YtdenmbigdklhkaaDoorRefA
import Derived.Test.YtdenmbigdklhkaaDoorRefD
import Derived.Test.YtdenmbigdklhkaaDoorRefG
namespace Go.Proofs.YtdenmbigdklhkaaDoor
open Go.RowKit

def refOk (v t : Int) : Value := .tuple #[.int .u64 v, .int .i64 t]

set_option maxHeartbeats 8000000 in
set_option maxRecDepth 100000 in
theorem re69 (a : Int) (A : Option Addr) (c : Nat) (w : World) (hs : Sl w w.heap.size A (u64s [a])) (hc : 1 ≤ c) (hx : c ≤ maxLen) (ha : 0 ≤ a ∧ a < 4294967296) :
    Calls Tryd.prog 15 #[.int .i64 69, .slice A 1 c] w fun e w' => e = .returned (.tuple #[.int .u64 (Num.tr (decide (a = 0))), .int .i64 0]) ∧ w = w' := by
  have HN := Lib.hid (fun w => rBits_any 69 w)
  rw [show ((Num.bitsOf 69 : Nat) : Int) = 32 from rfl] at HN
  obtain ⟨b, off, rfl, hbl, hcell⟩ := hs (by simp [u64s])
  have hc1 : w.cell? ⟨b, off, none⟩ = some (.int .u64 a) := hcell 0 (by simp)
  unfold maxLen at hx
  have HT := Lib.hid (fun b w => rtruth_any b w)
  obtain ⟨a0, a1⟩ := ha
  clear hcell hs
  go_enter Tryd.func15, Tryd.ntmps15
  go_wp2_with (first | (go_at_call 14; refine (HN.out _).mono ?_; rintro e w' ⟨rfl, rfl⟩) | (go_at_call 20; with_reducible refine (HT.out _ _).mono ?_; rintro e w' ⟨rfl, rfl⟩))
  go_ret2
  exact ⟨ret2 (congrArg (Value.int .u64) (congrArg Num.tr (by rw [Bool.eq_iff_iff]; simp))) rfl, rfl⟩

set_option maxHeartbeats 8000000 in
set_option maxRecDepth 100000 in
theorem re80 (a : Int) (A : Option Addr) (c : Nat) (w : World) (hs : Sl w w.heap.size A (u64s [a])) (hc : 1 ≤ c) (hx : c ≤ maxLen) (ha : 0 ≤ a ∧ a < 18446744073709551616) :
    Calls Tryd.prog 15 #[.int .i64 80, .slice A 1 c] w fun e w' => e = .returned (.tuple #[.int .u64 (Num.tr (decide (a = 0))), .int .i64 0]) ∧ w = w' := by
  have HN := Lib.hid (fun w => rBits_any 80 w)
  rw [show ((Num.bitsOf 80 : Nat) : Int) = 64 from rfl] at HN
  obtain ⟨b, off, rfl, hbl, hcell⟩ := hs (by simp [u64s])
  have hc1 : w.cell? ⟨b, off, none⟩ = some (.int .u64 a) := hcell 0 (by simp)
  unfold maxLen at hx
  have HT := Lib.hid (fun b w => rtruth_any b w)
  obtain ⟨a0, a1⟩ := ha
  clear hcell hs
  go_enter Tryd.func15, Tryd.ntmps15
  go_wp2_with (first | (go_at_call 14; refine (HN.out _).mono ?_; rintro e w' ⟨rfl, rfl⟩) | (go_at_call 20; with_reducible refine (HT.out _ _).mono ?_; rintro e w' ⟨rfl, rfl⟩))
  go_ret2
  exact ⟨ret2 (congrArg (Value.int .u64) (congrArg Num.tr (by rw [Bool.eq_iff_iff]; simp))) rfl, rfl⟩

set_option maxHeartbeats 8000000 in
set_option maxRecDepth 100000 in
theorem re167 (a : Int) (A : Option Addr) (c : Nat) (w : World) (hs : Sl w w.heap.size A (u64s [a])) (hc : 1 ≤ c) (hx : c ≤ maxLen) (ha : 0 ≤ a ∧ a < 18446744073709551616) :
    Calls Tryd.prog 15 #[.int .i64 167, .slice A 1 c] w fun e w' => e = .returned (.tuple #[.int .u64 (a % 4294967296), .int .i64 0]) ∧ w = w' := by
  have HN := Lib.hid (fun w => rBits_any 167 w)
  rw [show ((Num.bitsOf 167 : Nat) : Int) = 64 from rfl] at HN
  obtain ⟨b, off, rfl, hbl, hcell⟩ := hs (by simp [u64s])
  have hc1 : w.cell? ⟨b, off, none⟩ = some (.int .u64 a) := hcell 0 (by simp)
  unfold maxLen at hx
  obtain ⟨a0, a1⟩ := ha
  clear hcell hs
  go_enter Tryd.func15, Tryd.ntmps15
  go_wp2_with (first | (go_at_call 14; refine (HN.out _).mono ?_; rintro e w' ⟨rfl, rfl⟩))
  go_ret2
  exact ⟨ret2 (congrArg (Value.int .u64) (by first | rfl | omega)) rfl, rfl⟩

set_option maxHeartbeats 8000000 in
set_option maxRecDepth 100000 in
theorem re173 (a : Int) (A : Option Addr) (c : Nat) (w : World) (hs : Sl w w.heap.size A (u64s [a])) (hc : 1 ≤ c) (hx : c ≤ maxLen) (ha : 0 ≤ a ∧ a < 4294967296) :
    Calls Tryd.prog 15 #[.int .i64 173, .slice A 1 c] w fun e w' => e = .returned (.tuple #[.int .u64 (a), .int .i64 0]) ∧ w = w' := by
  have HN := Lib.hid (fun w => rBits_any 173 w)
  rw [show ((Num.bitsOf 173 : Nat) : Int) = 32 from rfl] at HN
  obtain ⟨b, off, rfl, hbl, hcell⟩ := hs (by simp [u64s])
  have hc1 : w.cell? ⟨b, off, none⟩ = some (.int .u64 a) := hcell 0 (by simp)
  unfold maxLen at hx
  obtain ⟨a0, a1⟩ := ha
  clear hcell hs
  go_enter Tryd.func15, Tryd.ntmps15
  go_wp2_with (first | (go_at_call 14; refine (HN.out _).mono ?_; rintro e w' ⟨rfl, rfl⟩))
  go_ret2
  exact ⟨rfl, rfl⟩

set_option maxHeartbeats 8000000 in
set_option maxRecDepth 100000 in
theorem re172n (a : Int) (A : Option Addr) (c : Nat) (w : World) (hs : Sl w w.heap.size A (u64s [a])) (hc : 1 ≤ c) (hx : c ≤ maxLen) (ha : 0 ≤ a ∧ a < 4294967296) (hneg : 2147483648 ≤ a) :
    Calls Tryd.prog 15 #[.int .i64 172, .slice A 1 c] w fun e w' => e = .returned (.tuple #[.int .u64 ((a - 4294967296) % 18446744073709551616), .int .i64 0]) ∧ w = w' := by
  have HN := Lib.hid (fun w => rBits_any 172 w)
  rw [show ((Num.bitsOf 172 : Nat) : Int) = 32 from rfl] at HN
  obtain ⟨b, off, rfl, hbl, hcell⟩ := hs (by simp [u64s])
  have hc1 : w.cell? ⟨b, off, none⟩ = some (.int .u64 a) := hcell 0 (by simp)
  unfold maxLen at hx
  have HG := Lib.hid (fun w => rneg32 a w ha.1 ha.2)
  have td : decide (2147483648 ≤ a) = true := by simp [hneg]
  rw [td] at HG
  obtain ⟨a0, a1⟩ := ha
  clear hcell hs
  go_enter Tryd.func15, Tryd.ntmps15
  go_wp2_with (first | (go_at_call 14; refine (HN.out _).mono ?_; rintro e w' ⟨rfl, rfl⟩) | (go_at_call 21; refine (HG.out _).mono ?_; rintro e w' ⟨rfl, rfl⟩))
  go_ret2
  exact ⟨ret2 (congrArg (Value.int .u64) (by (try rw [IntKind.wrap_u64]); omega)) rfl, rfl⟩

set_option maxHeartbeats 8000000 in
set_option maxRecDepth 100000 in
theorem re172p (a : Int) (A : Option Addr) (c : Nat) (w : World) (hs : Sl w w.heap.size A (u64s [a])) (hc : 1 ≤ c) (hx : c ≤ maxLen) (ha : 0 ≤ a ∧ a < 4294967296) (hneg : ¬ 2147483648 ≤ a) :
    Calls Tryd.prog 15 #[.int .i64 172, .slice A 1 c] w fun e w' => e = .returned (.tuple #[.int .u64 (a), .int .i64 0]) ∧ w = w' := by
  have HN := Lib.hid (fun w => rBits_any 172 w)
  rw [show ((Num.bitsOf 172 : Nat) : Int) = 32 from rfl] at HN
  obtain ⟨b, off, rfl, hbl, hcell⟩ := hs (by simp [u64s])
  have hc1 : w.cell? ⟨b, off, none⟩ = some (.int .u64 a) := hcell 0 (by simp)
  unfold maxLen at hx
  have HG := Lib.hid (fun w => rneg32 a w ha.1 ha.2)
  have td : decide (2147483648 ≤ a) = false := by simp; omega
  rw [td] at HG
  obtain ⟨a0, a1⟩ := ha
  clear hcell hs
  go_enter Tryd.func15, Tryd.ntmps15
  go_wp2_with (first | (go_at_call 14; refine (HN.out _).mono ?_; rintro e w' ⟨rfl, rfl⟩) | (go_at_call 21; refine (HG.out _).mono ?_; rintro e w' ⟨rfl, rfl⟩))
  go_ret2
  exact ⟨rfl, rfl⟩

set_option maxHeartbeats 8000000 in
set_option maxRecDepth 100000 in
theorem reC32 (op : Int) (a b : Int) (A : Option Addr) (c : Nat) (w : World) (h1 : 70 ≤ op) (h2 : op ≤ 79) (hs : Sl w w.heap.size A (u64s [a, b])) (hc : 2 ≤ c) (hx : c ≤ maxLen) (ha : 0 ≤ a ∧ a < 4294967296) (hb : 0 ≤ b ∧ b < 4294967296) :
    Calls Tryd.prog 15 #[.int .i64 op, .slice A 2 c] w fun e w' => e = .returned (.tuple #[.int .u64 (Num.tr (Num.cmpV (op - 70).toNat 32 a b)), .int .i64 0]) ∧ w = w' := by
  have HN := Lib.hid (fun w => rBits_any op w)
  have e3 : Num.bitsOf op = 32 := by unfold Num.bitsOf; rw [if_neg (by omega)]
  rw [e3, show ((32 : Nat) : Int) = 32 from rfl] at HN
  obtain ⟨bl, off, rfl, hbl, hcell⟩ := hs (by simp [u64s])
  have hc1 : w.cell? ⟨bl, off, none⟩ = some (.int .u64 a) := hcell 0 (by simp)
  have hc2 : w.cell? ⟨bl, off + 1, none⟩ = some (.int .u64 b) := hcell 1 (by simp)
  unfold maxLen at hx
  have HC := Lib.hid (fun w => rcompare32 (op - 70) (op - 70).toNat a b w (by omega) (by omega) ha hb)
  have HT := Lib.hid (fun b w => rtruth_any b w)
  obtain ⟨v, hv⟩ : ∃ v, v = Num.cmpV (op - 70).toNat 32 a b := ⟨_, rfl⟩
  rw [← hv] at HC ⊢
  clear hv
  have q69 : (op == 69) = false := by simp; omega
  have q80 : (op == 80) = false := by simp; omega
  have q167 : (op == 167) = false := by simp; omega
  have q172 : (op == 172) = false := by simp; omega
  have q173 : (op == 173) = false := by simp; omega
  clear e3 hcell hs ha hb
  go_enter Tryd.func15, Tryd.ntmps15
  go_wp2_with (first | (go_at_call 14; refine (HN.out _).mono ?_; rintro e w' ⟨rfl, rfl⟩) | (go_at_call 22; refine (HC.out _).mono ?_; rintro e w' ⟨rfl, rfl⟩) | (go_at_call 20; with_reducible refine (HT.out _ _).mono ?_; rintro e w' ⟨rfl, rfl⟩))
  go_ret2
  exact ⟨rfl, rfl⟩

set_option maxHeartbeats 8000000 in
set_option maxRecDepth 100000 in
theorem reC64 (op : Int) (a b : Int) (A : Option Addr) (c : Nat) (w : World) (h1 : 81 ≤ op) (h2 : op ≤ 90) (hs : Sl w w.heap.size A (u64s [a, b])) (hc : 2 ≤ c) (hx : c ≤ maxLen) (ha : 0 ≤ a ∧ a < 18446744073709551616) (hb : 0 ≤ b ∧ b < 18446744073709551616) :
    Calls Tryd.prog 15 #[.int .i64 op, .slice A 2 c] w fun e w' => e = .returned (.tuple #[.int .u64 (Num.tr (Num.cmpV (op - 81).toNat 64 a b)), .int .i64 0]) ∧ w = w' := by
  have HN := Lib.hid (fun w => rBits_any op w)
  have e3 : Num.bitsOf op = 64 := by unfold Num.bitsOf; rw [if_pos (by omega)]
  rw [e3, show ((64 : Nat) : Int) = 64 from rfl] at HN
  obtain ⟨bl, off, rfl, hbl, hcell⟩ := hs (by simp [u64s])
  have hc1 : w.cell? ⟨bl, off, none⟩ = some (.int .u64 a) := hcell 0 (by simp)
  have hc2 : w.cell? ⟨bl, off + 1, none⟩ = some (.int .u64 b) := hcell 1 (by simp)
  unfold maxLen at hx
  have HC := Lib.hid (fun w => rcompare64 (op - 81) (op - 81).toNat a b w (by omega) (by omega) ha hb)
  have HT := Lib.hid (fun b w => rtruth_any b w)
  obtain ⟨v, hv⟩ : ∃ v, v = Num.cmpV (op - 81).toNat 64 a b := ⟨_, rfl⟩
  rw [← hv] at HC ⊢
  clear hv
  have q69 : (op == 69) = false := by simp; omega
  have q80 : (op == 80) = false := by simp; omega
  have q167 : (op == 167) = false := by simp; omega
  have q172 : (op == 172) = false := by simp; omega
  have q173 : (op == 173) = false := by simp; omega
  clear e3 hcell hs ha hb
  go_enter Tryd.func15, Tryd.ntmps15
  go_wp2_with (first | (go_at_call 14; refine (HN.out _).mono ?_; rintro e w' ⟨rfl, rfl⟩) | (go_at_call 22; refine (HC.out _).mono ?_; rintro e w' ⟨rfl, rfl⟩) | (go_at_call 20; with_reducible refine (HT.out _ _).mono ?_; rintro e w' ⟨rfl, rfl⟩))
  go_ret2
  exact ⟨rfl, rfl⟩

set_option maxHeartbeats 8000000 in
set_option maxRecDepth 100000 in
theorem reN32 (op : Int) (a : Int) (A : Option Addr) (c : Nat) (w : World) (h1 : 103 ≤ op) (h2 : op ≤ 105) (hs : Sl w w.heap.size A (u64s [a])) (hc : 1 ≤ c) (hx : c ≤ maxLen) (ha : 0 ≤ a ∧ a < 4294967296) :
    Calls Tryd.prog 15 #[.int .i64 op, .slice A 1 c] w fun e w' => e = .returned (.tuple #[.int .u64 (Num.cntV (op - 103).toNat 32 a), .int .i64 0]) ∧ w = w' := by
  have HN := Lib.hid (fun w => rBits_any op w)
  have e3 : Num.bitsOf op = 32 := by unfold Num.bitsOf; rw [if_neg (by omega)]
  rw [e3, show ((32 : Nat) : Int) = 32 from rfl] at HN
  obtain ⟨bl, off, rfl, hbl, hcell⟩ := hs (by simp [u64s])
  have hc1 : w.cell? ⟨bl, off, none⟩ = some (.int .u64 a) := hcell 0 (by simp)
  unfold maxLen at hx
  have HC := Lib.hid (fun w => rcount32 (op - 103) (op - 103).toNat a w (by omega) (by omega) ha)
  obtain ⟨v, hv⟩ : ∃ v, v = Num.cntV (op - 103).toNat 32 a := ⟨_, rfl⟩
  rw [← hv] at HC ⊢
  clear hv
  have q69 : (op == 69) = false := by simp; omega
  have q80 : (op == 80) = false := by simp; omega
  have q167 : (op == 167) = false := by simp; omega
  have q172 : (op == 172) = false := by simp; omega
  have q173 : (op == 173) = false := by simp; omega
  clear e3 hcell hs ha
  go_enter Tryd.func15, Tryd.ntmps15
  go_wp2_with (first | (go_at_call 14; refine (HN.out _).mono ?_; rintro e w' ⟨rfl, rfl⟩) | (go_at_call 23; refine (HC.out _).mono ?_; rintro e w' ⟨rfl, rfl⟩))
  go_ret2
  exact ⟨rfl, rfl⟩

set_option maxHeartbeats 8000000 in
set_option maxRecDepth 100000 in
theorem reN64 (op : Int) (a : Int) (A : Option Addr) (c : Nat) (w : World) (h1 : 121 ≤ op) (h2 : op ≤ 123) (hs : Sl w w.heap.size A (u64s [a])) (hc : 1 ≤ c) (hx : c ≤ maxLen) (ha : 0 ≤ a ∧ a < 18446744073709551616) :
    Calls Tryd.prog 15 #[.int .i64 op, .slice A 1 c] w fun e w' => e = .returned (.tuple #[.int .u64 (Num.cntV (op - 121).toNat 64 a), .int .i64 0]) ∧ w = w' := by
  have HN := Lib.hid (fun w => rBits_any op w)
  have e3 : Num.bitsOf op = 64 := by unfold Num.bitsOf; rw [if_pos (by omega)]
  rw [e3, show ((64 : Nat) : Int) = 64 from rfl] at HN
  obtain ⟨bl, off, rfl, hbl, hcell⟩ := hs (by simp [u64s])
  have hc1 : w.cell? ⟨bl, off, none⟩ = some (.int .u64 a) := hcell 0 (by simp)
  unfold maxLen at hx
  have HC := Lib.hid (fun w => rcount64 (op - 121) (op - 121).toNat a w (by omega) (by omega) ha)
  obtain ⟨v, hv⟩ : ∃ v, v = Num.cntV (op - 121).toNat 64 a := ⟨_, rfl⟩
  rw [← hv] at HC ⊢
  clear hv
  have q69 : (op == 69) = false := by simp; omega
  have q80 : (op == 80) = false := by simp; omega
  have q167 : (op == 167) = false := by simp; omega
  have q172 : (op == 172) = false := by simp; omega
  have q173 : (op == 173) = false := by simp; omega
  clear e3 hcell hs ha
  go_enter Tryd.func15, Tryd.ntmps15
  go_wp2_with (first | (go_at_call 14; refine (HN.out _).mono ?_; rintro e w' ⟨rfl, rfl⟩) | (go_at_call 23; refine (HC.out _).mono ?_; rintro e w' ⟨rfl, rfl⟩))
  go_ret2
  exact ⟨rfl, rfl⟩

set_option maxHeartbeats 8000000 in
set_option maxRecDepth 100000 in
theorem reT32 (op : Int) (a b : Int) (A : Option Addr) (c : Nat) (w : World) (h1 : 106 ≤ op) (h2 : op ≤ 120) (hs : Sl w w.heap.size A (u64s [a, b])) (hc : 2 ≤ c) (hx : c ≤ maxLen) (ha : 0 ≤ a ∧ a < 4294967296) (hb : 0 ≤ b ∧ b < 4294967296) :
    Calls Tryd.prog 15 #[.int .i64 op, .slice A 2 c] w fun e w' => e = .returned (.tuple #[.int .u64 (Num.twoV (op - 106).toNat 32 a b).1, .int .i64 (Num.twoV (op - 106).toNat 32 a b).2]) ∧ w = w' := by
  have HN := Lib.hid (fun w => rBits_any op w)
  have e3 : Num.bitsOf op = 32 := by unfold Num.bitsOf; rw [if_neg (by omega)]
  rw [e3, show ((32 : Nat) : Int) = 32 from rfl] at HN
  obtain ⟨bl, off, rfl, hbl, hcell⟩ := hs (by simp [u64s])
  have hc1 : w.cell? ⟨bl, off, none⟩ = some (.int .u64 a) := hcell 0 (by simp)
  have hc2 : w.cell? ⟨bl, off + 1, none⟩ = some (.int .u64 b) := hcell 1 (by simp)
  unfold maxLen at hx
  have HC := Lib.hid (fun w => rtwo32 (op - 106) (op - 106).toNat a b w (by omega) (by omega) ha hb)
  obtain ⟨v, hv⟩ : ∃ v, v = (Num.twoV (op - 106).toNat 32 a b).1 := ⟨_, rfl⟩
  obtain ⟨t, ht⟩ : ∃ t, t = (Num.twoV (op - 106).toNat 32 a b).2 := ⟨_, rfl⟩
  rw [← hv, ← ht] at HC ⊢
  clear hv ht
  have q69 : (op == 69) = false := by simp; omega
  have q80 : (op == 80) = false := by simp; omega
  have q167 : (op == 167) = false := by simp; omega
  have q172 : (op == 172) = false := by simp; omega
  have q173 : (op == 173) = false := by simp; omega
  clear e3 hcell hs ha hb
  go_enter Tryd.func15, Tryd.ntmps15
  go_wp2_with (first | (go_at_call 14; refine (HN.out _).mono ?_; rintro e w' ⟨rfl, rfl⟩) | (go_at_call 24; refine (HC.out _).mono ?_; rintro e w' ⟨rfl, rfl⟩))
  go_ret2
  exact ⟨rfl, rfl⟩

set_option maxHeartbeats 8000000 in
set_option maxRecDepth 100000 in
theorem reT64 (op : Int) (a b : Int) (A : Option Addr) (c : Nat) (w : World) (h1 : 124 ≤ op) (h2 : op ≤ 138) (hs : Sl w w.heap.size A (u64s [a, b])) (hc : 2 ≤ c) (hx : c ≤ maxLen) (ha : 0 ≤ a ∧ a < 18446744073709551616) (hb : 0 ≤ b ∧ b < 18446744073709551616) :
    Calls Tryd.prog 15 #[.int .i64 op, .slice A 2 c] w fun e w' => e = .returned (.tuple #[.int .u64 (Num.twoV (op - 124).toNat 64 a b).1, .int .i64 (Num.twoV (op - 124).toNat 64 a b).2]) ∧ w = w' := by
  have HN := Lib.hid (fun w => rBits_any op w)
  have e3 : Num.bitsOf op = 64 := by unfold Num.bitsOf; rw [if_pos (by omega)]
  rw [e3, show ((64 : Nat) : Int) = 64 from rfl] at HN
  obtain ⟨bl, off, rfl, hbl, hcell⟩ := hs (by simp [u64s])
  have hc1 : w.cell? ⟨bl, off, none⟩ = some (.int .u64 a) := hcell 0 (by simp)
  have hc2 : w.cell? ⟨bl, off + 1, none⟩ = some (.int .u64 b) := hcell 1 (by simp)
  unfold maxLen at hx
  have HC := Lib.hid (fun w => rtwo64 (op - 124) (op - 124).toNat a b w (by omega) (by omega) ha hb)
  obtain ⟨v, hv⟩ : ∃ v, v = (Num.twoV (op - 124).toNat 64 a b).1 := ⟨_, rfl⟩
  obtain ⟨t, ht⟩ : ∃ t, t = (Num.twoV (op - 124).toNat 64 a b).2 := ⟨_, rfl⟩
  rw [← hv, ← ht] at HC ⊢
  clear hv ht
  have q69 : (op == 69) = false := by simp; omega
  have q80 : (op == 80) = false := by simp; omega
  have q167 : (op == 167) = false := by simp; omega
  have q172 : (op == 172) = false := by simp; omega
  have q173 : (op == 173) = false := by simp; omega
  clear e3 hcell hs ha hb
  go_enter Tryd.func15, Tryd.ntmps15
  go_wp2_with (first | (go_at_call 14; refine (HN.out _).mono ?_; rintro e w' ⟨rfl, rfl⟩) | (go_at_call 24; refine (HC.out _).mono ?_; rintro e w' ⟨rfl, rfl⟩))
  go_ret2
  exact ⟨rfl, rfl⟩

theorem rEval_one (op a : Int) (A : Option Addr) (c : Nat) (w : World) (hm : Num.many op = 1) (hs : Sl w w.heap.size A (u64s [a])) (hc : 1 ≤ c) (hx : c ≤ maxLen) (ha : 0 ≤ a ∧ a < 2 ^ Num.bitsOf op) :
    Calls Tryd.prog 15 #[.int .i64 op, .slice A 1 c] w fun e w' => e = .returned (refOk (Num.ev1 op a) 0) ∧ w = w' := by
  have h := many_one op hm
  unfold refOk
  by_cases c0 : op = 69
  · subst c0; exact re69 a A c w hs hc hx ha
  by_cases c1 : op = 80
  · subst c1; exact re80 a A c w hs hc hx ha
  by_cases c2 : op = 167
  · subst c2; exact re167 a A c w hs hc hx ha
  by_cases c3 : op = 172
  · subst c3
    have e : Num.ev1 172 a = Num.sg 32 a % 18446744073709551616 := rfl
    rw [e, Num.sg32]
    have ha' : 0 ≤ a ∧ a < 4294967296 := ha
    by_cases hn : 2147483648 ≤ a
    · rw [if_neg (by omega)]
      exact re172n a A c w hs hc hx ha hn
    · rw [if_pos (by omega), Int.emod_eq_of_lt ha'.1 (by omega)]
      exact re172p a A c w hs hc hx ha hn
  by_cases c4 : op = 173
  · subst c4; exact re173 a A c w hs hc hx ha
  by_cases c5 : op < 106
  · have e2 : Num.ev1 op a = Num.cntV (op - 103).toNat 32 a := by unfold Num.ev1; rw [if_neg (by omega), if_neg c2, if_neg c3, if_neg c4, if_pos c5]
    have e3 : Num.bitsOf op = 32 := by unfold Num.bitsOf; rw [if_neg (by omega)]
    rw [e3] at ha
    rw [e2]
    exact reN32 op a A c w (by omega) (by omega) hs hc hx ha
  · have e2 : Num.ev1 op a = Num.cntV (op - 121).toNat 64 a := by unfold Num.ev1; rw [if_neg (by omega), if_neg c2, if_neg c3, if_neg c4, if_neg c5]
    have e3 : Num.bitsOf op = 64 := by unfold Num.bitsOf; rw [if_pos (by omega)]
    rw [e3] at ha
    rw [e2]
    exact reN64 op a A c w (by omega) (by omega) hs hc hx ha

theorem rEval_two (op a b : Int) (A : Option Addr) (c : Nat) (w : World) (hm : Num.many op = 2) (hs : Sl w w.heap.size A (u64s [a, b])) (hc : 2 ≤ c) (hx : c ≤ maxLen) (ha : 0 ≤ a ∧ a < 2 ^ Num.bitsOf op) (hb : 0 ≤ b ∧ b < 2 ^ Num.bitsOf op) :
    Calls Tryd.prog 15 #[.int .i64 op, .slice A 2 c] w fun e w' => e = .returned (refOk (Num.ev2 op a b).1 (Num.ev2 op a b).2) ∧ w = w' := by
  have h := many_two op hm
  unfold refOk
  by_cases c0 : op < 80
  · have e2 : Num.ev2 op a b = (Num.tr (Num.cmpV (op - 70).toNat 32 a b), 0) := by unfold Num.ev2; rw [if_pos c0]
    have e3 : Num.bitsOf op = 32 := by unfold Num.bitsOf; rw [if_neg (by omega)]
    rw [e3] at ha hb
    rw [e2]
    exact reC32 op a b A c w (by omega) (by omega) hs hc hx ha hb
  by_cases c1 : op < 91
  · have e2 : Num.ev2 op a b = (Num.tr (Num.cmpV (op - 81).toNat 64 a b), 0) := by unfold Num.ev2; rw [if_neg c0, if_pos c1]
    have e3 : Num.bitsOf op = 64 := by unfold Num.bitsOf; rw [if_pos (by omega)]
    rw [e3] at ha hb
    rw [e2]
    exact reC64 op a b A c w (by omega) (by omega) hs hc hx ha hb
  by_cases c2 : op < 121
  · have e2 : Num.ev2 op a b = Num.twoV (op - 106).toNat 32 a b := by unfold Num.ev2; rw [if_neg c0, if_neg c1, if_pos c2]
    have e3 : Num.bitsOf op = 32 := by unfold Num.bitsOf; rw [if_neg (by omega)]
    rw [e3] at ha hb
    rw [e2]
    exact reT32 op a b A c w (by omega) (by omega) hs hc hx ha hb
  · have e2 : Num.ev2 op a b = Num.twoV (op - 124).toNat 64 a b := by unfold Num.ev2; rw [if_neg c0, if_neg c1, if_neg c2]
    have e3 : Num.bitsOf op = 64 := by unfold Num.bitsOf; rw [if_pos (by omega)]
    rw [e3] at ha hb
    rw [e2]
    exact reT64 op a b A c w (by omega) (by omega) hs hc hx ha hb

end Go.Proofs.YtdenmbigdklhkaaDoor
