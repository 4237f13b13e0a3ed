/- Plain mathematics of UTF-8: the reference's search, width by width, tells what the decoder does. No condition. -/
import Derived.Test.YtfefabeamcdihaaDoorNameMath2
namespace Go.Proofs.YtfefabeamcdihaaDoor
open Go.Lib

namespace Utf

/-- the number that the first k of m bytes' bits make. -/
def val (l : List UInt8) (m : Nat) : Nat → Nat
  | 0 => if 1 < m then at_ l 0 % (256 / 2 ^ (m + 1)) else at_ l 0
  | k + 1 => val l m k * 64 + at_ l (k + 1) % 64
/-- m bytes that are a character's. -/
def Hit (l : List UInt8) (m : Nat) : Prop := m ≤ l.length ∧ char (val l m (m - 1)) = true ∧ enc (val l m (m - 1)) = l.take m

theorem hit_dec {l : List UInt8} {m : Nat} (h : Hit l m) : dec l = (val l m (m - 1), m) ∧ dec l ≠ (65533, 1) := by
  obtain ⟨h1, h2, h3⟩ := h
  have hs : l = enc (val l m (m - 1)) ++ l.drop m := by rw [h3, List.take_append_drop]
  have h4 := enc_dec _ h2 (l.drop m)
  have h5 := enc_good _ h2 (l.drop m)
  rw [← hs] at h4 h5
  have hl : (enc (val l m (m - 1))).length = m := by rw [h3]; simp; omega
  rw [hl] at h4
  exact ⟨h4, h5⟩

theorem dec_hit {l : List UInt8} (h : 1 ≤ l.length) (hg : dec l ≠ (65533, 1)) : Hit l (dec l).2 ∧ val l (dec l).2 ((dec l).2 - 1) = (dec l).1 := by
  have hv : val l (dec l).2 ((dec l).2 - 1) = (dec l).1 := by
    unfold dec at hg ⊢
    unfold decodeN at hg ⊢
    split at hg
    · rename_i h1; rw [if_pos h1]; simp [val]
    · rename_i h1
      rw [if_neg h1]
      split at hg
      · rename_i h2
        rw [if_pos h2]
        split at hg
        · rename_i h3; rw [if_pos h3]; simp [val]
        · exact absurd rfl hg
      · rename_i h2
        rw [if_neg h2]
        split at hg
        · rename_i h4
          rw [if_pos h4]
          split at hg
          · rename_i h3; rw [if_pos h3]; simp [val]; omega
          · exact absurd rfl hg
        · rename_i h4
          rw [if_neg h4]
          split at hg
          · rename_i h5
            rw [if_pos h5]
            split at hg
            · rename_i h3; rw [if_pos h3]; simp [val]; omega
            · exact absurd rfl hg
          · exact absurd rfl hg
  refine ⟨⟨(dec_width l h).2.1, ?_, ?_⟩, hv⟩
  · rw [hv]; exact dec_char l
  · rw [hv]; exact dec_enc l h hg

theorem val_lt (l : List UInt8) (m : Nat) (k : Nat) : val l m k < 256 * 64 ^ k := by
  induction k with
  | zero =>
    have := at_lt l 0
    unfold val
    split
    · have : at_ l 0 % (256 / 2 ^ (m + 1)) ≤ at_ l 0 := Nat.mod_le _ _
      omega
    · omega
  | succ k ih =>
    unfold val
    rw [Nat.pow_succ]
    have : at_ l (k + 1) % 64 < 64 := Nat.mod_lt _ (by decide)
    omega

end Utf
end Go.Proofs.YtfefabeamcdihaaDoor
