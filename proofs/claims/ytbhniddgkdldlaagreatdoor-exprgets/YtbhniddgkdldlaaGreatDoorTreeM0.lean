/- Lists of instructions whose parts fit into memory, and an instruction with where its lists lie. Plain definitions and lemmas, no condition. -/
import Derived.Test.YtbhniddgkdldlaaGreatDoorTreeW
import Derived.Test.YtbhniddgkdldlaaGreatDoorTreeOwn
set_option linter.unusedVariables false
set_option linter.unusedSimpArgs false
namespace Go.Proofs.YtbhniddgkdldlaaGreatDoor
open Go.RowKit Go.ChangeShapes Go.WideShapes Go.Deep Trx

/-- no list in it is too great for one piece of memory. -/
def Light : Fo → Prop
  | .nil => True
  | .cons _ _ _ _ _ L body els _ next => (L.length * 8 ≤ RB ∧ len body * 120 ≤ RB ∧ len els * 120 ≤ RB) ∧ Light body ∧ Light els ∧ Light next
structure LightN (n : Nd) : Prop where
  L : n.L.length * 8 ≤ RB
  b : len n.body * 120 ≤ RB
  e : len n.els * 120 ≤ RB
  body : Light n.body
  els : Light n.els
theorem Light.mem {f : Fo} (h : Light f) {n : Nd} (hn : n ∈ nds f) : LightN n := by
  induction f with
  | nil => simp [nds] at hn
  | cons op a b v t L body els he next _ _ ih =>
    simp only [nds, List.mem_cons] at hn
    rcases hn with rfl | hn
    · exact ⟨h.1.1, h.1.2.1, h.1.2.2, h.2.1, h.2.2.1⟩
    · exact ih h.2.2.2 hn
theorem Light.mk {l : List Nd} (h : ∀ n ∈ l, LightN n) : Light (ofN l) := by
  induction l with
  | nil => trivial
  | cons n l ih =>
    have h0 := h n List.mem_cons_self
    exact ⟨⟨h0.L, h0.b, h0.e⟩, h0.body, h0.els, ih fun m hm => h m (List.mem_cons_of_mem _ hm)⟩

/-- an instruction, with where its lists lie. -/
structure In where
  n : Nd
  p : Pl
@[reducible] def In.cells (i : In) : List Value := (insC i.n i.p).toList
structure In.ok (w : World) (B : Nat) (i : In) : Prop where
  nd : NdOk w B i.n i.p
  light : LightN i.n

theorem elem_int : ElemK Tryz.prog 3 1 8 := ElemK.mk_ (z := .int .i64 0) (by kernel_rfl) rfl
end Go.Proofs.YtbhniddgkdldlaaGreatDoor
