/- Contracts of the reference's Float, Floating, and of Made at a row of the document's table. -/
import Derived.Test.YtblmhlojbjhmnaaDoorOpM
namespace Go.Proofs.YtblmhlojbjhmnaaDoor
open Go.RowKit

/-- the letters ahead of the colon, those behind it. -/
def lettA (r : Opx.R) : List UInt8 := r.types.takeWhile (· != 58)
def lettG (r : Opx.R) : List UInt8 := (r.types.dropWhile (· != 58)).drop 1
def rowOk (r : Opx.R) : Bool := (r.types == lettA r ++ 58 :: lettG r) && ((lettA r).all (· != 58)) && ((lettG r).all (· != 58)) && decide ((lettG r).length ≤ 1) && decide ((lettA r).length ≤ 2) && decide (r.name.length ≤ 20)
  && ((lettA r).map Opx.letter == Opx.tk r.byte) && (((lettG r).map Opx.letter).sum == Opx.gv r.byte)
set_option maxRecDepth 100000 in
theorem all_ok : Opx.all.all rowOk = true := by decide +kernel

theorem index_str (ts : List UInt8) (j : Nat) (w : World) (h : j < (⟨ts.toArray⟩ : ByteArray).size) : (Instr.index 9 (.string ⟨ts.toArray⟩) (.int .i64 j)).run Tryd.prog w = .ok (.int .u8 ((ts.getD j 0).toNat : Int)) w := by
  have hl : j < ts.length := by have h' : j < ts.toArray.size := h; simpa using h'
  rw [run_index_string w 9 _ .i64 j Tryd.underlying9, dif_pos ⟨by omega, by omega⟩]
  rw [List.getD_eq_getElem?_getD, List.getElem?_eq_getElem hl]
  rfl

theorem Made_row (r : Opx.R) (hr : r ∈ Opx.all) (w : World) :
    Calls Tryd.prog 12 #[.agg #[.int .i64 r.byte, .string ⟨r.name.toArray⟩, .int .i64 r.kind, .string ⟨r.types.toArray⟩, .int .i64 r.bytes]] w fun e w' =>
      ∃ A c, e = .returned (opV r.byte (.slice A (Opx.tk r.byte).length c)) ∧ Own w.heap.size w w' 3 (.slice A (Opx.tk r.byte).length c) (i64s (Opx.tk r.byte)) := by
  have h1 := List.all_eq_true.1 all_ok r hr
  have h2 := List.all_eq_true.1 Opx.all_agrees r hr
  simp only [rowOk, Bool.and_eq_true, decide_eq_true_eq, beq_iff_eq, List.all_eq_true, bne_iff_ne] at h1
  simp only [Opx.agrees, Bool.and_eq_true, decide_eq_true_eq, beq_iff_eq] at h2
  obtain ⟨⟨⟨⟨⟨⟨⟨e1, e2⟩, e3⟩, e4⟩, e5⟩, e6⟩, e7⟩, e8⟩ := h1
  obtain ⟨⟨⟨⟨⟨⟨⟨⟨-, -⟩, f1⟩, f2⟩, -⟩, -⟩, f5⟩, f6⟩, -⟩ := h2
  have hts : (⟨r.types.toArray⟩ : ByteArray).size = (lettA r).length + 1 + (lettG r).length := by
    have := congrArg List.length e1
    simp at this
    show r.types.toArray.size = _
    simp; omega
  have := Made_core r.byte r.kind r.bytes ⟨r.name.toArray⟩ ⟨r.types.toArray⟩ (lettA r) (lettG r) w hts e2 e3 e4 e5 (by show r.name.toArray.size ≤ 20; simpa using e6) (Lib.hid fun j w h => by
    rw [← e1]; exact index_str r.types j w h)
  refine this.mono ?_
  rintro e w' ⟨A, c, rfl, ho⟩
  rw [e7] at ho ⊢
  refine ⟨A, c, ?_, ho⟩
  have f6' : (decide (r.kind = 7) && Lib.hasSuffix r.name [95, 115]) = Opx.sn r.byte := f6
  unfold opV Opx.nmB
  rw [e8, ← f1, ← f2, ← f5, ← f6']

set_option maxHeartbeats 4000000 in
set_option maxRecDepth 100000 in
theorem Float_any (b : Int) (w : World) :
    Calls Tryd.prog 9 #[.int .i64 b] w fun e w' => e = .returned (.bool (Opx.flt b)) ∧ w = w' := by
  obtain ⟨f, hf⟩ : ∃ f, f = Opx.flt b := ⟨_, rfl⟩
  have HF := Lib.hid hf
  rw [← hf]
  clear hf
  go_enter Tryd.func9, Tryd.ntmps9
  go_wp2
  all_goals
    go_ret
    exact ⟨ret_bool (by rw [HF.out]; unfold Opx.flt; first | (symm; rw [decide_eq_true_eq]; omega) | (symm; rw [decide_eq_false_iff_not]; omega) | (rw [Bool.eq_iff_iff]; simp; omega)), rfl⟩

end Go.Proofs.YtblmhlojbjhmnaaDoor
