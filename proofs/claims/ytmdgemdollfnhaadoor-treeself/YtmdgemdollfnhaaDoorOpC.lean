/- Contract of slices.Repeat at a list of one number, once or twice. -/
import Derived.Test.YtmdgemdollfnhaaDoorOpB
import Derived.Test.YtmdgemdollfnhaaDoorOwn
namespace Go.Proofs.YtmdgemdollfnhaaDoor
open Go.RowKit

/-- numbers as cells. -/
def i64s (zs : List Int) : List Value := zs.map (Value.int .i64)
theorem i64s_get (zs : List Int) (i : Nat) (h : i < zs.length) : (i64s zs)[i]? = some (.int .i64 (zs[i])) := by simp [i64s, h]
@[simp] theorem i64s_length (zs : List Int) : (i64s zs).length = zs.length := by simp [i64s]

theorem Mul_lit (n : Nat) (w : World) (hn : n < 3) : Calls Tryd.prog 108 #[.int .u64 1, .int .u64 (n : Int)] w fun e w' => e = .returned (.tuple #[.int .u64 0, .int .u64 (n : Int)]) ∧ w' = w := by
  have := Tryd.bits_Mul 1 n (by decide) (by omega) w
  have e1 : 1 * n / 18446744073709551616 = 0 := by omega
  have e2 : 1 * n % 18446744073709551616 = n := by omega
  rw [e1, e2] at this
  exact this

theorem mk1 (w : World) : (Instr.makeSlice 40 (.int .i64 1) (.int .i64 1)).run Tryd.prog w = .ok (.slice (some ⟨w.heap.size, 0, none⟩) 1 1) (w.alloc (.cells #[.int .i64 0] 3)) := by kernel_rfl
theorem mk2 (w : World) : (Instr.makeSlice 40 (.int .i64 2) (.int .i64 2)).run Tryd.prog w = .ok (.slice (some ⟨w.heap.size, 0, none⟩) 2 2) (w.alloc (.cells #[.int .i64 0, .int .i64 0] 3)) := by kernel_rfl

theorem int_one : (Tryd.prog.info? 3).map (·.size) = some 1 := by kernel_rfl
theorem cp1 (w : World) (g : Nat) (t : Int) (hg : g < w.heap.size) (hc : w.cell? ⟨g, 0, none⟩ = some (.int .i64 t)) :
    (Builtin.copy_ #[40, 40] 3 #[.slice (some ⟨w.heap.size, 0, none⟩) 1 1, .slice (some ⟨g, 0, none⟩) 1 1]).run Tryd.prog (w.alloc (.cells #[.int .i64 0] 3)) = .ok (.int .i64 1) (w.alloc (.cells #[.int .i64 t] 3)) := by
  have h := run_copy_cells (P := Tryd.prog) (w.alloc (.cells #[.int .i64 0] 3)) 40 40 3 3 w.heap.size 0 1 1 ⟨g, 0, none⟩ 1 1 [.int .i64 t] Tryd.underlying40 int_one rfl
    (by intro j v hj; match j, hj with | 0, hj => simp at hj; subst hj; rw [show (⟨g, 0, none⟩ : Addr).add 0 = ⟨g, 0, none⟩ by rfl, World.cell?_alloc_past _ _ _ hg, hc] | j + 1, hj => simp at hj)
    (by intro j hj; simp at hj; subst hj; rw [World.cell?_alloc_at _ _ _ _ rfl]; rfl)
    (by intro j hj; rw [World.frozen?_alloc_at _ _ _ _ rfl]) (by intro v hv; simp at hv; subst hv; rfl)
  rw [h]
  simp only [World.setCells]
  rw [World.setCell_alloc_at _ _ _ _ _ rfl]
  rfl
theorem cp2 (w : World) (g : Nat) (t : Int) (hg : g < w.heap.size) (hc : w.cell? ⟨g, 0, none⟩ = some (.int .i64 t)) :
    (Builtin.copy_ #[40, 40] 3 #[.slice (some ⟨w.heap.size, 0, none⟩) 2 2, .slice (some ⟨g, 0, none⟩) 1 1]).run Tryd.prog (w.alloc (.cells #[.int .i64 0, .int .i64 0] 3)) = .ok (.int .i64 1) (w.alloc (.cells #[.int .i64 t, .int .i64 0] 3)) := by
  have h := run_copy_cells (P := Tryd.prog) (w.alloc (.cells #[.int .i64 0, .int .i64 0] 3)) 40 40 3 3 w.heap.size 0 2 2 ⟨g, 0, none⟩ 1 1 [.int .i64 t] Tryd.underlying40 int_one rfl
    (by intro j v hj; match j, hj with | 0, hj => simp at hj; subst hj; rw [show (⟨g, 0, none⟩ : Addr).add 0 = ⟨g, 0, none⟩ by rfl, World.cell?_alloc_past _ _ _ hg, hc] | j + 1, hj => simp at hj)
    (by intro j hj; simp at hj; subst hj; rw [World.cell?_alloc_at _ _ _ _ rfl]; rfl)
    (by intro j hj; rw [World.frozen?_alloc_at _ _ _ _ rfl]) (by intro v hv; simp at hv; subst hv; rfl)
  rw [h]
  simp only [World.setCells]
  rw [World.setCell_alloc_at _ _ _ _ _ rfl]
  rfl
theorem cp3 (w : World) (t : Int) :
    (Builtin.copy_ #[40, 40] 3 #[.slice (some ⟨w.heap.size, 1, none⟩) 1 1, .slice (some ⟨w.heap.size, 0, none⟩) 1 2]).run Tryd.prog (w.alloc (.cells #[.int .i64 t, .int .i64 0] 3)) = .ok (.int .i64 1) (w.alloc (.cells #[.int .i64 t, .int .i64 t] 3)) := by
  have h := run_copy_cells (P := Tryd.prog) (w.alloc (.cells #[.int .i64 t, .int .i64 0] 3)) 40 40 3 3 w.heap.size 1 1 1 ⟨w.heap.size, 0, none⟩ 1 2 [.int .i64 t] Tryd.underlying40 int_one rfl
    (by intro j v hj; match j, hj with | 0, hj => simp at hj; subst hj; rw [show (⟨w.heap.size, 0, none⟩ : Addr).add 0 = ⟨w.heap.size, 0, none⟩ by rfl, World.cell?_alloc_at _ _ _ _ rfl]; rfl | j + 1, hj => simp at hj)
    (by intro j hj; simp at hj; subst hj; rw [World.cell?_alloc_at _ _ _ _ rfl]; rfl)
    (by intro j hj; rw [World.frozen?_alloc_at _ _ _ _ rfl]) (by intro v hv; simp at hv; subst hv; rfl)
  rw [h]
  simp only [World.setCells]
  rw [World.setCell_alloc_at _ _ _ _ _ rfl]
  rfl

set_option maxHeartbeats 4000000 in
set_option maxRecDepth 100000 in
theorem Repeat_one (t : Int) (g : Nat) (w : World) (hg : g < w.heap.size) (hc : w.cell? ⟨g, 0, none⟩ = some (.int .i64 t)) :
    Calls Tryd.prog 101 #[.slice (some ⟨g, 0, none⟩) 1 1, .int .i64 1] w fun e w' => ∃ v, e = .returned v ∧ Own w.heap.size w w' 3 v (i64s [t]) := by
  have HM := Lib.hid (fun w => Mul_lit 1 w (by decide))
  have hmk := mk1
  have hcp := cp1 w g t hg hc
  have HO := Lib.hid (Own.lit w #[.int .i64 t] 3 (by unfold maxLen; simp))
  clear hc hg
  go_enter Tryd.func101, Tryd.ntmps101
  go_wp2_with (go_at_call 108; refine (HM.out _).mono ?_; rintro e w' ⟨rfl, hw⟩; subst hw)
  refine wp_loop_rounds 1 ?_
  rw [rounds_succ]
  go_wp2
  go_ret
  exact ⟨_, rfl, HO.out⟩

set_option maxHeartbeats 4000000 in
set_option maxRecDepth 100000 in
theorem Repeat_two (t : Int) (g : Nat) (w : World) (hg : g < w.heap.size) (hc : w.cell? ⟨g, 0, none⟩ = some (.int .i64 t)) :
    Calls Tryd.prog 101 #[.slice (some ⟨g, 0, none⟩) 1 1, .int .i64 2] w fun e w' => ∃ v, e = .returned v ∧ Own w.heap.size w w' 3 v (i64s [t, t]) := by
  have HM := Lib.hid (fun w => Mul_lit 2 w (by decide))
  have hmk := mk2
  have hcp := cp2 w g t hg hc
  have hcq : (Builtin.copy_ #[40, 40] 3 #[.slice (some ⟨w.heap.size, 1, none⟩) 1 1, .slice (some ⟨w.heap.size, 0, none⟩) 1 2]).run Tryd.prog (w.alloc (.cells #[.int .i64 t, .int .i64 0] 3)).drew = .ok (.int .i64 1) (w.alloc (.cells #[.int .i64 t, .int .i64 t] 3)).drew := cp3 w.drew t
  have HO := Lib.hid (Own.lit w #[.int .i64 t, .int .i64 t] 3 (by unfold maxLen; simp))
  clear hc hg
  go_enter Tryd.func101, Tryd.ntmps101
  go_wp2_with (go_at_call 108; refine (HM.out _).mono ?_; rintro e w' ⟨rfl, hw⟩; subst hw)
  refine wp_loop_rounds 2 ?_
  rw [rounds_succ]
  go_wp2
  go_region
  go_wp2
  rw [rounds_succ]
  go_wp2
  go_ret
  exact ⟨_, rfl, HO.out.drewN 1⟩

end Go.Proofs.YtmdgemdollfnhaaDoor
