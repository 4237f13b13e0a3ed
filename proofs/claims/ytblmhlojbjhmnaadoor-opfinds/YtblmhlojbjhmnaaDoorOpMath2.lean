/- Plain mathematics of layer 4: which names are floats'; names and bytes. No condition; nothing of the program. -/
import Derived.Test.YtblmhlojbjhmnaaDoorOpMath
namespace Go.Proofs.YtblmhlojbjhmnaaDoor.Opx
open Go.Lib

def sufS : List UInt8 := [95, 115]
def sufU : List UInt8 := [95, 117]
def f32 : List UInt8 := [95, 102, 51, 50]
def f64 : List UInt8 := [95, 102, 54, 52]
/-- what is left of a name without a sign's letters. -/
def rest (l : List UInt8) : List UInt8 := if hasSuffix l sufS then trimSuffix l sufS else trimSuffix l sufU
def fl (l : List UInt8) : Bool := hasPrefix l [102, 51, 50, 46] || hasPrefix l [102, 54, 52, 46] || (hasSuffix (rest l) f32 || hasSuffix (rest l) f64)
/-- as the document has it. -/
def flD (l : List UInt8) : Bool := hasPrefix l [102, 51, 50, 46] || hasPrefix l [102, 54, 52, 46] || (hasSuffix l f32 || hasSuffix l f64 || hasSuffix l [95, 102, 51, 50, 95, 115] || hasSuffix l [95, 102, 51, 50, 95, 117] || hasSuffix l [95, 102, 54, 52, 95, 115] || hasSuffix l [95, 102, 54, 52, 95, 117])

theorem suf_rev (l p : List UInt8) : hasSuffix l p = p.reverse.isPrefixOf l.reverse := rfl
theorem trim_rev (l p : List UInt8) (h : hasSuffix l p = true) : (trimSuffix l p).reverse = l.reverse.drop p.length := by
  rw [trimSuffix, if_pos h, List.reverse_take]
  have : p.length ≤ l.length := (List.isSuffixOf_iff_suffix.1 h).length_le
  rw [show l.length - (l.length - p.length) = p.length by omega]

theorem rest_le (l : List UInt8) : (rest l).length ≤ l.length := by
  unfold rest trimSuffix
  repeat' split
  all_goals simp

theorem fl_eq (l : List UInt8) : fl l = flD l := by
  unfold fl flD
  congr 1
  generalize hr : l.reverse = r
  by_cases hS : hasSuffix l sufS = true
  · have e : (rest l).reverse = r.drop 2 := by
      unfold rest; rw [if_pos hS, trim_rev l _ hS, hr]; rfl
    simp only [suf_rev, e, hr] at hS ⊢
    rcases r with _ | ⟨c0, _ | ⟨c1, r⟩⟩
    · simp [sufS, List.isPrefixOf] at hS
    · simp [sufS, List.isPrefixOf] at hS
    · simp [sufS, List.isPrefixOf] at hS
      obtain ⟨rfl, rfl⟩ := hS
      simp [f32, f64, List.isPrefixOf]
  · have hS' : hasSuffix l sufS = false := by simpa using hS
    by_cases hU : hasSuffix l sufU = true
    · have e : (rest l).reverse = r.drop 2 := by
        unfold rest; rw [if_neg hS, trim_rev l _ hU, hr]; rfl
      simp only [suf_rev, e, hr] at hU ⊢
      rcases r with _ | ⟨c0, _ | ⟨c1, r⟩⟩
      · simp [sufU, List.isPrefixOf] at hU
      · simp [sufU, List.isPrefixOf] at hU
      · simp [sufU, List.isPrefixOf] at hU
        obtain ⟨rfl, rfl⟩ := hU
        simp [f32, f64, List.isPrefixOf]
    · have hU' : hasSuffix l sufU = false := by simpa using hU
      have e : rest l = l := by unfold rest; rw [if_neg hS, trimSuffix, if_neg hU]
      rw [e]
      have h2 : hasSuffix l [95, 102, 51, 50, 95, 115] = false ∧ hasSuffix l [95, 102, 51, 50, 95, 117] = false ∧ hasSuffix l [95, 102, 54, 52, 95, 115] = false ∧ hasSuffix l [95, 102, 54, 52, 95, 117] = false := by
        simp only [suf_rev, hr] at hS' hU' ⊢
        rcases r with _ | ⟨c0, _ | ⟨c1, r⟩⟩
        · simp [List.isPrefixOf]
        · simp [List.isPrefixOf]
        · simp [sufS, sufU, List.isPrefixOf] at hS' hU' ⊢
          refine ⟨?_, ?_, ?_, ?_⟩ <;> intro h1 h3 <;> simp_all
      simp [h2.1, h2.2.1, h2.2.2.1, h2.2.2.2]

set_option maxRecDepth 100000 in
theorem no_flN : ((List.range 174).all fun j => !(fl (nm j)) || (nm j).isEmpty) = true := by decide +kernel
theorem fl_nm (b : Int) (j : Nat) (hb : b = j) (hj : j < 174) (hn : nm b ≠ []) : fl (nm b) = false := by
  subst hb
  have := List.all_eq_true.1 no_flN j (by simpa using hj)
  simpa [hn] using this
theorem apart (i j : Nat) (hi : i < 174) (hj : j < 174) (hn : nm i ≠ []) (he : nm (i : Int) = nm (j : Int)) : i = j := by
  have h1 := List.all_eq_true.1 names_apart i (by simpa using hi)
  have h2 := List.all_eq_true.1 h1 j (by simpa using hj)
  simp [hn, he] at h2
  exact h2.resolve_left (by rw [← he]; exact hn)

end Go.Proofs.YtblmhlojbjhmnaaDoor.Opx
