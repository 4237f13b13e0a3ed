/- Contract of the reference's Rows: a new row of the document's table. A straight text is run by the kernel. -/
import Derived.Test.YtmdgemdollfnhaaDoorOpJ
namespace Go.Proofs.YtmdgemdollfnhaaDoor
open Go.RowKit

/-- a straight list of operations, none of them guarded, none of them a call: what lies behind it. -/
def runOps (P : Program) : List Oper → Act → World → Option (Act × World)
  | [], a, w => some (a, w)
  | o :: r, a, w => match o.guard, (execOp a.eval o).run P w with
    | none, .ok (.value v) w' => runOps P r (a.put o.dst v) w'
    | _, _ => none

section
variable {P : Program} {ops : Array Oper} {Q : Exit → Act → World → Prop}
theorem wpList_run : ∀ (l : List Oper) (a : Act) (w : World) (x : Act × World), runOps P l a w = some x → Q .normal x.1 x.2 → wpList P ops Q l a w
  | [], a, w, x, h, k => by
    simp only [runOps, Option.some.injEq] at h
    subst h
    exact k
  | o :: r, a, w, x, h, k => by
    unfold runOps at h
    split at h
    · rename_i v w' hg hr
      refine wpList_plain hg fun K hK => ?_
      unfold Oper.wp
      rw [hr]
      exact hK _ _ (wpList_run r _ _ x h k)
    · cases h
theorem wp_seq_run {id : Nat} {y : Code} {a : Act} {w : World} (h : (runOps P ops.toList a w).isSome = true)
    (k : y.wp P Q ((runOps P ops.toList a w).get h).1 ((runOps P ops.toList a w).get h).2) : (Code.seq (Code.region id ops false) y).wp P Q a w :=
  wp_seq (wp_region_list (wpList_run _ _ _ _ (Option.some_get h).symm k))
end

set_option maxHeartbeats 8000000 in
set_option maxRecDepth 100000 in
theorem Rows_any (w : World) :
    Calls Tryd.prog 97 #[] w fun e w' => e = .returned (.slice (some ⟨w.heap.size, 0, none⟩) 46 46) ∧ w' = w.alloc (.cells (flatR Opx.rows).toArray 137) := by
  go_enter Tryd.func97, Tryd.ntmps97
  refine wp_seq_run (by kernel_rfl) ?_
  refine wp_seq_run (by kernel_rfl) ?_
  refine wp_ret ?_
  refine bodyPost_ret (v := .slice (some ⟨w.heap.size, 0, none⟩) 46 46) (by kernel_rfl) (by kernel_rfl) ?_
  exact ⟨rfl, by kernel_rfl⟩

theorem rows_own (w : World) : OwnR w.heap.size w (w.alloc (.cells (flatR Opx.rows).toArray 137)) (.slice (some ⟨w.heap.size, 0, none⟩) 46 46) Opx.rows := by
  have hl : (flatR Opx.rows).length = 230 := by rw [flatR_length]; rfl
  refine ⟨?_, (Below.refl _ _).alloc (Nat.le_refl _) _, by simp⟩
  refine ⟨flatR_length _, .inr ⟨w.heap.size, 46, (flatR Opx.rows).toArray, rfl, Nat.le_refl _, ?_, Nat.le_refl _, by unfold maxLen; decide, ?_, ?_⟩⟩
  · exact (MapKept.heap_alloc w _).1
  · simp [hl]
  · rw [List.toList_toArray]
    exact List.take_of_length_le (by rw [hl]; decide)

end Go.Proofs.YtmdgemdollfnhaaDoor
