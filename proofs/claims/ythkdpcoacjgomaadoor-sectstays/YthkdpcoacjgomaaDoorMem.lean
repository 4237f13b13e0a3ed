/- What the proofs of this seat say of memory: a slice that reads as a list of cells, nil and empty let in; a quiet world. Plain definitions and lemmas, no condition. -/
import Derived.Test.YthkdpcoacjgomaaDoorRows
import Derived.WalkKit
import Derived.ProofKit
import Derived.Lib.Hide
import Derived.Deep.QuietTactic
import Derived.BigQuiet
import Derived.Laws.OwnMore
import Derived.Deep.Draws
import Derived.WalkLawsBesides
import Derived.WalkSpells
import Derived.Laws.BytesArg
set_option linter.unusedVariables false
set_option linter.unusedSimpArgs false
namespace Go.Proofs.YthkdpcoacjgomaaDoor
open Go.RowKit

/-- the slice with address A (nil let in) of as many elements as vs (one cell each) reads as vs, in a block below B. -/
def Sl (w : World) (B : Nat) (A : Option Addr) (vs : List Value) : Prop :=
  vs ≠ [] → ∃ b off, A = some ⟨b, off, none⟩ ∧ b < B ∧ ∀ i, i < vs.length → w.cell? ⟨b, off + i, none⟩ = vs[i]?

/-- bytes as cells. -/
def u8s (bs : List UInt8) : List Value := bs.map fun b => .int .u8 (b.toNat : Int)
@[simp] theorem u8s_length (bs : List UInt8) : (u8s bs).length = bs.length := by simp [u8s]
theorem u8s_get (bs : List UInt8) (i : Nat) (h : i < bs.length) : (u8s bs)[i]? = some (.int .u8 ((bs[i]).toNat : Int)) := by
  simp [u8s, h]
theorem u8s_take (bs : List UInt8) (n : Nat) : u8s (bs.take n) = (u8s bs).take n := by simp [u8s, List.map_take]
theorem u8s_drop (bs : List UInt8) (n : Nat) : u8s (bs.drop n) = (u8s bs).drop n := by simp [u8s, List.map_drop]

section
variable {w w' : World} {B B' : Nat} {A : Option Addr} {vs : List Value}
theorem Sl.nil_ : Sl w B A [] := fun h => absurd rfl h
theorem Sl.keep (h : Sl w B A vs) (hk : ∀ b o, b < B → w'.cell? ⟨b, o, none⟩ = w.cell? ⟨b, o, none⟩) : Sl w' B A vs := fun hn => by
  obtain ⟨b, off, e, hb, hc⟩ := h hn
  exact ⟨b, off, e, hb, fun i hi => (hk _ _ hb).trans (hc i hi)⟩
theorem Sl.more (h : Sl w B A vs) (hB : B ≤ B') : Sl w B' A vs := fun hn => by
  obtain ⟨b, off, e, hb, hc⟩ := h hn
  exact ⟨b, off, e, by omega, hc⟩
theorem Sl.below (h : Sl w B A vs) (hb : Below B w w') : Sl w' B A vs := h.keep fun b o hp => hb.cell (p := ⟨b, o, none⟩) hp
theorem Sl.drewN (h : Sl w B A vs) (k : Nat) : Sl (w.drewN k) B A vs := h
theorem Sl.take (h : Sl w B A vs) (n : Nat) : Sl w B A (vs.take n) := fun hn => by
  obtain ⟨b, off, e, hb, hc⟩ := h (fun e => hn (by simp [e]))
  refine ⟨b, off, e, hb, fun i hi => ?_⟩
  rw [List.length_take] at hi
  rw [hc i (by omega), List.getElem?_take, if_pos (by omega)]
theorem Sl.drop (h : Sl w B A vs) {k cap : Nat} (hc : vs.length ≤ cap) : Sl w B (if cap = k then A else A.map (·.add k)) (vs.drop k) := fun hn => by
  have hk : k < vs.length := by
    rcases Nat.lt_or_ge k vs.length with h1 | h1
    · exact h1
    · exact absurd (List.drop_eq_nil_of_le h1) hn
  obtain ⟨b, off, rfl, hb, hcell⟩ := h (fun e => by simp [e] at hk)
  rw [if_neg (by omega)]
  refine ⟨b, off + k, by by_cases e : k = 0 <;> simp [Addr.add, e], hb, fun i hi => ?_⟩
  rw [List.length_drop] at hi
  rw [show off + k + i = off + (k + i) by omega, hcell _ (by omega), List.getElem?_drop]
end

/-- 'string(b)' of a slice of bytes that reads as bs. -/
theorem run_str_of {P : Program} {w : World} {B : Nat} {A : Option Addr} {bs : List UInt8} (src dst e : TypeId) (hs : P.underlying src = some (.slice e)) (he : P.underlying e = some (.int .u8)) (hd : P.underlying dst = some .string)
    (h : Sl w B A (u8s bs)) (c : Nat) : (convert src dst (.slice A bs.length c)).run P w = .ok (.string ⟨bs.toArray⟩) w := by
  by_cases hb : bs = []
  · subst hb
    cases A with
    | none => exact run_convert_bytes_nil w src e hs he _ _ dst hd
    | some a =>
      rw [run_convert_bytes_string w src dst e _ _ c hs he hd, run_bytesToString w _ _ c [] (by simp [loadCells, loadCellsFrom])]
      rfl
  · obtain ⟨b, off, rfl, _, hc⟩ := h (by intro e; exact hb (by have := congrArg List.length e; simpa using this))
    have := run_convert_bytes_arg (P := P) w src e hs he b off bs.length c (bs.map fun x => (x.toNat : Int)) (by simp) (fun i hi => by
      rw [hc i (by simpa using hi), u8s_get bs i hi]
      simp [hi]) dst hd
    rw [this]
    congr 2
    have e : ((fun n : Int => UInt8.ofNat n.toNat) ∘ fun x : UInt8 => (x.toNat : Int)) = id := by funext x; simp
    simp [strOfNums, e]

/-- a callee that leaves the world alone, in a region that draws. -/
theorem quiet_same {P : Program} {f : FuncId} {args : Array Value} {w : World} {n : Nat} {v : Value}
    (h : Calls P f args (w.drewN n) fun e w' => e = .returned v ∧ w.drewN n = w') : Calls P f args (w.drewN n) fun e w'' => e = .returned v ∧ ∃ m, w'' = w.drewN m :=
  h.mono fun _ _ ⟨he, hm⟩ => ⟨he, n, hm.symm⟩

end Go.Proofs.YthkdpcoacjgomaaDoor
