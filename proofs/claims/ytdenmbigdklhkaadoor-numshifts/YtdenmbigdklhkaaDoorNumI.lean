/- num.Eval of a row that was just written down; grommetlaw03.up. -/
import Derived.Test.YtdenmbigdklhkaaDoorNumH
import Derived.Below
import Derived.StillTailTactics
import Derived.OpenShut
namespace Go.Proofs.YtdenmbigdklhkaaDoor
open Go.RowKit

theorem Sl.lit64 (w : World) (zs : List Int) (e : TypeId) : Sl (w.alloc (.cells (u64s zs).toArray e)) (w.alloc (.cells (u64s zs).toArray e)).heap.size (some ⟨w.heap.size, 0, none⟩) (u64s zs) := fun _ =>
  ⟨w.heap.size, 0, rfl, by simp, fun i hi => by
    have := cell_of_row (w.alloc (.cells (u64s zs).toArray e)) w.heap.size i _ e (0, 0) (heap_alloc_new w _)
    rw [Nat.zero_add, this]; simp⟩

theorem below_drewN {B : Nat} {a w : World} (h : Below B a w) (n : Nat) : Below B a (w.drewN n) := ⟨h.os, h.tape, h.output, h.size, h.block⟩
theorem TabT.below {w w' : World} (h : TabT w) (hb : Below w.heap.size w w') : TabT w' := fun j hj => by
  have h0 := h j hj
  have hlt := World.block_lt_of_cell? _ _ h0
  rw [hb.cell (p := ⟨_, j, none⟩) hlt]
  exact h0

theorem ev_lit2 (op a b : Int) (w : World) (h0 : 0 ≤ op) (hn : Num.many op = 2) (ha : 0 ≤ a ∧ a < 2 ^ Num.bitsOf op) (hb : 0 ≤ b ∧ b < 2 ^ Num.bitsOf op) (v t : Int) (hv : Num.ev2 op a b = (v, t)) :
    Calls Tryd.prog 13 #[.int .i64 op, .slice (some ⟨w.heap.size, 0, none⟩) 2 2] (w.alloc (.cells #[.int .u64 a, .int .u64 b] 28)) fun e w' => e = .returned (.tuple #[.int .u64 v, .int .i64 t, .nilIface]) ∧ Below w.heap.size w w' := by
  have h2 := many_two op hn
  have h := Eval_two op a b (some ⟨w.heap.size, 0, none⟩) 2 _ (by omega) (by omega) hn (Sl.lit64 w [a, b] 28) (Nat.le_refl _) (by decide) ha hb
  rw [hv] at h
  refine h.mono ?_
  rintro e w' ⟨rfl, nq, rfl⟩
  exact ⟨rfl, below_drewN ((Below.refl _ _).alloc (Nat.le_refl _) _) nq⟩

theorem ev_lit1 (op a : Int) (w : World) (h0 : 0 ≤ op) (hn : Num.many op = 1) (ha : 0 ≤ a ∧ a < 2 ^ Num.bitsOf op) (hT : TabT w) (v : Int) (hv : Num.ev1 op a = v) :
    Calls Tryd.prog 13 #[.int .i64 op, .slice (some ⟨w.heap.size, 0, none⟩) 1 1] (w.alloc (.cells #[.int .u64 a] 28)) fun e w' => e = .returned (.tuple #[.int .u64 v, .int .i64 0, .nilIface]) ∧ Below w.heap.size w w' := by
  have h2 := many_one op hn
  have h := Eval_one op a (some ⟨w.heap.size, 0, none⟩) 1 _ (by omega) (by omega) hn (Sl.lit64 w [a] 28) (Nat.le_refl _) (by decide) ha (hT.below ((Below.refl _ _).alloc (Nat.le_refl _) _))
  rw [hv] at h
  refine h.mono ?_
  rintro e w' ⟨rfl, nq, rfl⟩
  exact ⟨rfl, below_drewN ((Below.refl _ _).alloc (Nat.le_refl _) _) nq⟩

set_option maxHeartbeats 1000000 in
set_option maxRecDepth 100000 in
theorem up_any (w : World) : Calls Tryd.prog 10 #[] w fun e w' => e = .returned (.bool true) ∧ Below w.heap.size w w' := by
  have H1 := Lib.hid (fun w => ev_lit2 109 2147483648 4294967295 w (by decide) (by decide) (by decide) (by decide) 0 3 (by decide))
  have H2 := Lib.hid (fun w => ev_lit2 117 2147483648 33 w (by decide) (by decide) (by decide) (by decide) 3221225472 0 (by decide))
  go_enter Tryd.func10, Tryd.ntmps10
  go_wp2_with fail
  with_reducible refine (H1.out _).mono ?_
  rintro e w1 ⟨rfl, hb1⟩
  go_wp2_with fail
  with_reducible refine (H2.out _).mono ?_
  rintro e w2 ⟨rfl, hb2⟩
  have hb := hb1.trans (hb2.mono hb1.size)
  clear hb1 hb2
  go_wp2
  go_ret
  exact ⟨rfl, hb⟩

end Go.Proofs.YtdenmbigdklhkaaDoor
