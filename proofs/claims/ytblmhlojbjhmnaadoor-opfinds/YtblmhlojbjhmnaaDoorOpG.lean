/- Contracts of the statements' up, and of the reference's Same (of two operations that are the same). -/
import Derived.Test.YtblmhlojbjhmnaaDoorOpF
import Derived.Test.YtblmhlojbjhmnaaDoorErrs
namespace Go.Proofs.YtblmhlojbjhmnaaDoor
open Go.RowKit

theorem nmB51 : Opx.nm 51 = [105, 54, 52, 46, 108, 111, 97, 100, 49, 54, 95, 117] := by decide +kernel
theorem gv51 : Opx.gv 51 = 2 := by decide +kernel
theorem by51 : Opx.by_ 51 = 2 := by decide +kernel

set_option maxHeartbeats 4000000 in
set_option maxRecDepth 100000 in
theorem up_any (w : World) (hN : Nam w) :
    Calls Tryd.prog 7 #[] w fun e w' => e = .returned (.bool true) ∧ Below w.heap.size w w' := by
  have HF := Lib.hid (Find_op 51 ⟨#[105, 54, 52, 46, 108, 111, 97, 100, 49, 54, 95, 117]⟩ w hN (by rw [nmB51]; simp) nmB51.symm)
  have HL := Lib.hid (fun w => Look_flt 67 w (by decide))
  unfold opV noV at *
  rw [gv51, by51] at HF
  have hq := fun w => run_eql_code w 3 3
  clear hN
  go_enter Tryd.func7, Tryd.ntmps7
  go_wp2_with (first
    | (go_at_call 13; refine HF.out.mono ?_; rintro e w' ⟨A, c, rfl, ho⟩; have hb := Lib.hid ho.below; have hl := ho.le; clear ho)
    | (go_at_call 8; refine (HL.out _).mono ?_; rintro e w2 ⟨rfl, hb2⟩; obtain ⟨hlt, k0, k1, k2, k3, k4, k5, k6, kf⟩ := seven hb2; have hb3 := Lib.hid (Below.trans (hb.out.alloc hl _) (hb2.mono (by simp; omega))); clear hb2))
  go_ret
  exact ⟨rfl, hb3.out.alloc (by omega) _⟩

set_option maxHeartbeats 4000000 in
set_option maxRecDepth 100000 in
theorem Same_none (b k g y : Int) (n : ByteArray) (s : Bool) (A1 A2 : Option Addr) (c1 c2 : Nat) (w : World) :
    Calls Tryd.prog 10 #[.agg #[.int .i64 b, .string n, .int .i64 k, .slice A1 0 c1, .int .i64 g, .int .i64 y, .bool s], .agg #[.int .i64 b, .string n, .int .i64 k, .slice A2 0 c2, .int .i64 g, .int .i64 y, .bool s]] w
      fun e w' => e = .returned (.bool true) ∧ Below w.heap.size w w' := by
  go_enter Tryd.func10, Tryd.ntmps10
  go_wp2
  refine wp_loop_rounds 1 ?_
  rw [rounds_succ]
  go_wp2
  go_ret
  exact ⟨rfl, ((Below.refl _ _).alloc (Nat.le_refl _) _).alloc (by simp) _⟩

set_option maxHeartbeats 4000000 in
set_option maxRecDepth 100000 in
theorem Same_one (b k g y : Int) (n : ByteArray) (s : Bool) (g1 o1 g2 o2 : Nat) (c1 c2 : Nat) (x : Int) (w : World) (h1 : g1 < w.heap.size) (h2 : g2 < w.heap.size)
    (k1 : w.cell? ⟨g1, o1, none⟩ = some (.int .i64 x)) (k2 : w.cell? ⟨g2, o2, none⟩ = some (.int .i64 x)) :
    Calls Tryd.prog 10 #[.agg #[.int .i64 b, .string n, .int .i64 k, .slice (some ⟨g1, o1, none⟩) 1 c1, .int .i64 g, .int .i64 y, .bool s], .agg #[.int .i64 b, .string n, .int .i64 k, .slice (some ⟨g2, o2, none⟩) 1 c2, .int .i64 g, .int .i64 y, .bool s]] w
      fun e w' => e = .returned (.bool true) ∧ Below w.heap.size w w' := by
  have t : (x != x) = false := by simp
  go_enter Tryd.func10, Tryd.ntmps10
  go_wp2
  refine wp_loop_rounds 2 ?_
  rw [rounds_succ]
  go_wp2
  go_quiet (fail)
  go_wp2
  rw [rounds_succ]
  go_wp2
  go_ret
  exact ⟨rfl, by
    have hb := ((Below.refl _ w).alloc (Nat.le_refl _) (.cells #[.int .i64 b, .string n, .int .i64 k, .slice (some ⟨g1, o1, none⟩) 1 c1, .int .i64 g, .int .i64 y, .bool s] 25)).alloc (by simp) (.cells #[.int .i64 b, .string n, .int .i64 k, .slice (some ⟨g2, o2, none⟩) 1 c2, .int .i64 g, .int .i64 y, .bool s] 25)
    exact ⟨hb.os, hb.tape, hb.output, hb.size, hb.block⟩⟩

set_option maxHeartbeats 4000000 in
set_option maxRecDepth 100000 in
theorem Same_two (b k g y : Int) (n : ByteArray) (s : Bool) (g1 o1 g2 o2 : Nat) (c1 c2 : Nat) (x z : Int) (w : World) (h1 : g1 < w.heap.size) (h2 : g2 < w.heap.size)
    (k1 : w.cell? ⟨g1, o1, none⟩ = some (.int .i64 x)) (k2 : w.cell? ⟨g2, o2, none⟩ = some (.int .i64 x)) (k3 : w.cell? ⟨g1, o1 + 1, none⟩ = some (.int .i64 z)) (k4 : w.cell? ⟨g2, o2 + 1, none⟩ = some (.int .i64 z)) :
    Calls Tryd.prog 10 #[.agg #[.int .i64 b, .string n, .int .i64 k, .slice (some ⟨g1, o1, none⟩) 2 c1, .int .i64 g, .int .i64 y, .bool s], .agg #[.int .i64 b, .string n, .int .i64 k, .slice (some ⟨g2, o2, none⟩) 2 c2, .int .i64 g, .int .i64 y, .bool s]] w
      fun e w' => e = .returned (.bool true) ∧ Below w.heap.size w w' := by
  have t : (x != x) = false := by simp
  have t2 : (z != z) = false := by simp
  go_enter Tryd.func10, Tryd.ntmps10
  go_wp2
  refine wp_loop_rounds 3 ?_
  rw [rounds_succ]
  go_wp2
  go_quiet (fail)
  go_wp2
  rw [rounds_succ]
  go_wp2
  go_quiet (fail)
  go_wp2
  rw [rounds_succ]
  go_wp2
  go_ret
  exact ⟨rfl, by
    have hb := ((Below.refl _ w).alloc (Nat.le_refl _) (.cells #[.int .i64 b, .string n, .int .i64 k, .slice (some ⟨g1, o1, none⟩) 2 c1, .int .i64 g, .int .i64 y, .bool s] 25)).alloc (by simp) (.cells #[.int .i64 b, .string n, .int .i64 k, .slice (some ⟨g2, o2, none⟩) 2 c2, .int .i64 g, .int .i64 y, .bool s] 25)
    exact ⟨hb.os, hb.tape, hb.output, hb.size, hb.block⟩⟩

/-- two lists of numbers that are the same, two at the most: Same says yes. -/
theorem Same_any (b k g y : Int) (n : ByteArray) (s : Bool) (A1 A2 : Option Addr) (c1 c2 : Nat) (zs : List Int) (w : World) (hz : zs.length ≤ 2) (h1 : Sl w w.heap.size A1 (i64s zs)) (h2 : Sl w w.heap.size A2 (i64s zs)) :
    Calls Tryd.prog 10 #[.agg #[.int .i64 b, .string n, .int .i64 k, .slice A1 zs.length c1, .int .i64 g, .int .i64 y, .bool s], .agg #[.int .i64 b, .string n, .int .i64 k, .slice A2 zs.length c2, .int .i64 g, .int .i64 y, .bool s]] w
      fun e w' => e = .returned (.bool true) ∧ Below w.heap.size w w' := by
  rcases zs with _ | ⟨x, _ | ⟨z, _ | ⟨u, zs⟩⟩⟩
  · exact Same_none b k g y n s A1 A2 c1 c2 w
  · obtain ⟨g1, o1, rfl, b1, l1⟩ := h1 (by simp [i64s])
    obtain ⟨g2, o2, rfl, b2, l2⟩ := h2 (by simp [i64s])
    exact Same_one b k g y n s g1 o1 g2 o2 c1 c2 x w b1 b2 (l1 0 (by simp)) (l2 0 (by simp))
  · obtain ⟨g1, o1, rfl, b1, l1⟩ := h1 (by simp [i64s])
    obtain ⟨g2, o2, rfl, b2, l2⟩ := h2 (by simp [i64s])
    exact Same_two b k g y n s g1 o1 g2 o2 c1 c2 x z w b1 b2 (l1 0 (by simp)) (l2 0 (by simp)) (l1 1 (by simp)) (l2 1 (by simp))
  · simp at hz

end Go.Proofs.YtblmhlojbjhmnaaDoor
