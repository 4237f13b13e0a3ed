/- How a slice of integers among the arguments is opened: it reads as a list, nil and empty let in. Plain lemmas, no condition. -/
import Derived.Test.YthkdpcoacjgomaaDoorMem
import Derived.OpenShut
import Derived.ShutString
import Derived.ChangeOld
import Derived.Below
set_option linter.unusedVariables false
set_option linter.unusedSimpArgs false
namespace Go.Proofs.YthkdpcoacjgomaaDoor
open Go.ChangeShapes Go.WideShapes Go.ChangeAt Go.RowKit

theorem own_knob : ownKnob Tryd.prog.godebug = none := by kernel_rfl
theorem laid_out : laidOutB Tryd.prog = true := by kernel_rfl

theorem ints_of_row {k : IntKind} {W : World} {x : Addr} {len : Nat} {zs : List Int} (hl : len ≤ zs.length)
    (hcell : ∀ i, i < zs.length → W.cell? (x.add i) = some (.int k (zs.getD i 0))) : Sl W W.heap.size (some x) ((zs.take len).map (Value.int k)) := fun hne => by
  have hlen : 0 < len := by
    rcases Nat.eq_zero_or_pos len with h | h
    · subst h; simp at hne
    · exact h
  obtain ⟨b, off, spot⟩ := x
  have h0 := hcell 0 (by omega)
  have hspot : spot = none := by simpa [Addr.add] using World.cell?_spot h0
  subst hspot
  have hlt := World.block_lt_of_cell? _ _ h0
  simp [Addr.add] at hlt
  refine ⟨b, off, rfl, hlt, fun i hi => ?_⟩
  simp at hi
  have hi2 : i < zs.length := by omega
  have hc := hcell i hi2
  have e : (⟨b, off, none⟩ : Addr).add i = ⟨b, off + i, none⟩ := by unfold Addr.add; split <;> simp_all
  rw [e] at hc
  rw [hc]
  simp [hi, hi2]

theorem bytes_of_row {W : World} {x : Addr} {len : Nat} {zs : List Int} (hl : len ≤ zs.length)
    (hcell : ∀ i, i < zs.length → W.cell? (x.add i) = some (.int .u8 (zs.getD i 0))) (hwz : ∀ n ∈ zs, (Lit.int .u8 n).wf = true) :
    ∃ bs : List UInt8, bs.length = len ∧ Sl W W.heap.size (some x) (u8s bs) := by
  refine ⟨(zs.take len).map fun n => UInt8.ofNat n.toNat, by simp; omega, ?_⟩
  have h := ints_of_row (k := .u8) hl hcell
  have e : u8s ((zs.take len).map fun n => UInt8.ofNat n.toNat) = (zs.take len).map (Value.int .u8) := by
    unfold u8s
    rw [List.map_map]
    refine List.map_congr_left fun n hn => ?_
    have hb := bounds_u8 (hwz n (List.mem_of_mem_take hn))
    simp [Function.comp]
    omega
  rw [e]
  exact h

end Go.Proofs.YthkdpcoacjgomaaDoor
