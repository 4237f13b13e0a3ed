/- Plain mathematics of UTF-8: what the decoder tells, character by character. No condition. -/
import Derived.Test.YtfefabeamcdihaaDoorU8
import Derived.Test.YtfefabeamcdihaaDoorU8c
namespace Go.Proofs.YtfefabeamcdihaaDoor
open Go.Lib

namespace Utf

theorem N_width (n b0 b1 b2 b3 : Nat) (hn : 1 ≤ n) : 1 ≤ (decodeN n b0 b1 b2 b3).2 ∧ (decodeN n b0 b1 b2 b3).2 ≤ n ∧ (decodeN n b0 b1 b2 b3).2 ≤ 4 := by
  unfold decodeN
  repeat' split
  all_goals simp only
  all_goals omega

theorem N_char (n b0 b1 b2 b3 : Nat) (h0 : b0 < 256) : char (decodeN n b0 b1 b2 b3).1 = true := by
  unfold decodeN char
  repeat' split
  all_goals simp only [Bool.and_eq_true, Bool.or_eq_true, decide_eq_true_eq]
  all_goals omega

theorem dec_width (l : List UInt8) (h : 1 ≤ l.length) : 1 ≤ (dec l).2 ∧ (dec l).2 ≤ l.length ∧ (dec l).2 ≤ 4 := N_width _ _ _ _ _ h
theorem dec_char (l : List UInt8) : char (dec l).1 = true := N_char _ _ _ _ _ (at_lt l 0)
theorem dec_le (l : List UInt8) : (dec l).1 ≤ 1114111 := by
  have := dec_char l
  simp [char] at this
  omega

/-- the first k bytes, by their numbers. -/
theorem take_at (l : List UInt8) : ∀ k, k ≤ l.length → l.take k = (List.range k).map fun i => UInt8.ofNat (at_ l i) := fun k hk => by
  refine List.ext_getElem (by simp; omega) fun i h1 h2 => ?_
  simp at h1 h2
  rw [List.getElem_take, List.getElem_map, List.getElem_range, ← at_get l i (by omega)]
  simp

set_option maxRecDepth 100000 in
set_option maxHeartbeats 2000000 in
/-- a character that is told is written so. -/
theorem N_enc (n b0 b1 b2 b3 : Nat) (hn : 1 ≤ n) (h0 : b0 < 256) (h1 : b1 < 256) (h2 : b2 < 256) (h3 : b3 < 256) (hg : decodeN n b0 b1 b2 b3 ≠ (65533, 1)) :
    enc (decodeN n b0 b1 b2 b3).1 = ([b0, b1, b2, b3].take (decodeN n b0 b1 b2 b3).2).map UInt8.ofNat := by
  unfold decodeN at hg ⊢
  split at hg
  · rename_i h
    rw [if_pos h]
    simp [enc, h]
  · rename_i h
    rw [if_neg h]
    split at hg
    · rename_i h'
      rw [if_pos h']
      split at hg
      · rename_i h4
        rw [if_pos h4]
        simp only [enc]
        rw [if_neg (by omega), if_pos (by omega)]
        simp only [List.take_succ_cons, List.take_zero, List.map_cons, List.map_nil]
        rw [show 192 + (b0 % 32 * 64 + b1 % 64) / 64 = b0 by omega, show 128 + (b0 % 32 * 64 + b1 % 64) % 64 = b1 by omega]
      · exact absurd rfl hg
    · rename_i h'
      rw [if_neg h']
      split at hg
      · rename_i h5
        rw [if_pos h5]
        split at hg
        · rename_i h4
          rw [if_pos h4]
          simp only [enc]
          rw [if_neg (by omega), if_neg (by omega), if_pos (by omega)]
          simp only [List.take_succ_cons, List.take_zero, List.map_cons, List.map_nil]
          rw [show 224 + (b0 % 16 * 4096 + b1 % 64 * 64 + b2 % 64) / 4096 = b0 by omega, show 128 + (b0 % 16 * 4096 + b1 % 64 * 64 + b2 % 64) / 64 % 64 = b1 by omega, show 128 + (b0 % 16 * 4096 + b1 % 64 * 64 + b2 % 64) % 64 = b2 by omega]
        · exact absurd rfl hg
      · rename_i h5
        rw [if_neg h5]
        split at hg
        · rename_i h6
          rw [if_pos h6]
          split at hg
          · rename_i h4
            rw [if_pos h4]
            simp only [enc]
            rw [if_neg (by omega), if_neg (by omega), if_neg (by omega)]
            simp only [List.take_succ_cons, List.take_zero, List.map_cons, List.map_nil]
            rw [show 240 + (b0 % 8 * 262144 + b1 % 64 * 4096 + b2 % 64 * 64 + b3 % 64) / 262144 = b0 by omega, show 128 + (b0 % 8 * 262144 + b1 % 64 * 4096 + b2 % 64 * 64 + b3 % 64) / 4096 % 64 = b1 by omega, show 128 + (b0 % 8 * 262144 + b1 % 64 * 4096 + b2 % 64 * 64 + b3 % 64) / 64 % 64 = b2 by omega, show 128 + (b0 % 8 * 262144 + b1 % 64 * 4096 + b2 % 64 * 64 + b3 % 64) % 64 = b3 by omega]
          · exact absurd rfl hg
        · exact absurd rfl hg

theorem dec_enc (l : List UInt8) (h : 1 ≤ l.length) (hg : dec l ≠ (65533, 1)) : enc (dec l).1 = l.take (dec l).2 := by
  have := N_enc l.length (at_ l 0) (at_ l 1) (at_ l 2) (at_ l 3) h (at_lt l 0) (at_lt l 1) (at_lt l 2) (at_lt l 3) hg
  obtain ⟨w1, w2, w3⟩ := dec_width l h
  rw [take_at l _ w2]
  refine this.trans ?_
  show ([at_ l 0, at_ l 1, at_ l 2, at_ l 3].take (dec l).2).map UInt8.ofNat = _
  obtain ⟨k, hk⟩ : ∃ k, (dec l).2 = k := ⟨_, rfl⟩
  rw [hk] at w1 w3 ⊢
  have : k = 1 ∨ k = 2 ∨ k = 3 ∨ k = 4 := by omega
  rcases this with rfl | rfl | rfl | rfl <;> rfl

set_option maxRecDepth 100000 in
set_option maxHeartbeats 4000000 in
/-- what was written is read. -/
theorem enc_dec (c : Nat) (h : char c = true) (r : List UInt8) : dec (enc c ++ r) = (c, (enc c).length) := by
  have hc : c ≤ 1114111 ∧ (c < 55296 ∨ 57343 < c) := by simpa [char] using h
  have ho : ∀ x, x < 256 → (UInt8.ofNat x).toNat = x := fun x hx => by simp; omega
  by_cases h1 : c < 128
  · have e : enc c = [UInt8.ofNat c] := by simp [enc, h1]
    rw [e]
    unfold dec
    have a0 : at_ ([UInt8.ofNat c] ++ r) 0 = c := by simp only [at_, List.cons_append, List.nil_append, List.getD_cons_zero]; exact ho c (by omega)
    rw [a0]
    unfold decodeN
    rw [if_pos h1]
    rfl
  · by_cases h2 : c < 2048
    · have e : enc c = [UInt8.ofNat (192 + c / 64), UInt8.ofNat (128 + c % 64)] := by simp [enc, h1, h2]
      rw [e]
      unfold dec
      have a0 : at_ ([UInt8.ofNat (192 + c / 64), UInt8.ofNat (128 + c % 64)] ++ r) 0 = 192 + c / 64 := by simp only [at_, List.cons_append, List.nil_append, List.getD_cons_zero]; exact ho _ (by omega)
      have a1 : at_ ([UInt8.ofNat (192 + c / 64), UInt8.ofNat (128 + c % 64)] ++ r) 1 = 128 + c % 64 := by simp only [at_, List.cons_append, List.nil_append, List.getD_cons_succ, List.getD_cons_zero]; exact ho _ (by omega)
      rw [a0, a1]
      unfold decodeN
      rw [if_neg (by omega), if_pos ⟨by omega, by simp, by omega⟩, if_pos (by omega)]
      simp only [List.length_cons, List.length_nil]
      refine Prod.ext ?_ rfl
      simp only
      omega
    · by_cases h3 : c < 65536
      · have e : enc c = [UInt8.ofNat (224 + c / 4096), UInt8.ofNat (128 + c / 64 % 64), UInt8.ofNat (128 + c % 64)] := by simp [enc, h1, h2, h3]
        rw [e]
        unfold dec
        have a0 : at_ ([UInt8.ofNat (224 + c / 4096), UInt8.ofNat (128 + c / 64 % 64), UInt8.ofNat (128 + c % 64)] ++ r) 0 = 224 + c / 4096 := by simp only [at_, List.cons_append, List.nil_append, List.getD_cons_zero]; exact ho _ (by omega)
        have a1 : at_ ([UInt8.ofNat (224 + c / 4096), UInt8.ofNat (128 + c / 64 % 64), UInt8.ofNat (128 + c % 64)] ++ r) 1 = 128 + c / 64 % 64 := by simp only [at_, List.cons_append, List.nil_append, List.getD_cons_succ, List.getD_cons_zero]; exact ho _ (by omega)
        have a2 : at_ ([UInt8.ofNat (224 + c / 4096), UInt8.ofNat (128 + c / 64 % 64), UInt8.ofNat (128 + c % 64)] ++ r) 2 = 128 + c % 64 := by simp only [at_, List.cons_append, List.nil_append, List.getD_cons_succ, List.getD_cons_zero]; exact ho _ (by omega)
        rw [a0, a1, a2]
        unfold decodeN
        rw [if_neg (by omega), if_neg (by omega), if_pos ⟨by omega, ⟨by simp, by omega⟩, by simp, by omega⟩, if_pos (by omega)]
        simp only [List.length_cons, List.length_nil]
        refine Prod.ext ?_ rfl
        simp only
        omega
      · have e : enc c = [UInt8.ofNat (240 + c / 262144), UInt8.ofNat (128 + c / 4096 % 64), UInt8.ofNat (128 + c / 64 % 64), UInt8.ofNat (128 + c % 64)] := by simp [enc, h1, h2, h3]
        rw [e]
        unfold dec
        have a0 : at_ ([UInt8.ofNat (240 + c / 262144), UInt8.ofNat (128 + c / 4096 % 64), UInt8.ofNat (128 + c / 64 % 64), UInt8.ofNat (128 + c % 64)] ++ r) 0 = 240 + c / 262144 := by simp only [at_, List.cons_append, List.nil_append, List.getD_cons_zero]; exact ho _ (by omega)
        have a1 : at_ ([UInt8.ofNat (240 + c / 262144), UInt8.ofNat (128 + c / 4096 % 64), UInt8.ofNat (128 + c / 64 % 64), UInt8.ofNat (128 + c % 64)] ++ r) 1 = 128 + c / 4096 % 64 := by simp only [at_, List.cons_append, List.nil_append, List.getD_cons_succ, List.getD_cons_zero]; exact ho _ (by omega)
        have a2 : at_ ([UInt8.ofNat (240 + c / 262144), UInt8.ofNat (128 + c / 4096 % 64), UInt8.ofNat (128 + c / 64 % 64), UInt8.ofNat (128 + c % 64)] ++ r) 2 = 128 + c / 64 % 64 := by simp only [at_, List.cons_append, List.nil_append, List.getD_cons_succ, List.getD_cons_zero]; exact ho _ (by omega)
        have a3 : at_ ([UInt8.ofNat (240 + c / 262144), UInt8.ofNat (128 + c / 4096 % 64), UInt8.ofNat (128 + c / 64 % 64), UInt8.ofNat (128 + c % 64)] ++ r) 3 = 128 + c % 64 := by simp only [at_, List.cons_append, List.nil_append, List.getD_cons_succ, List.getD_cons_zero]; exact ho _ (by omega)
        rw [a0, a1, a2, a3]
        unfold decodeN
        rw [if_neg (by omega), if_neg (by omega), if_neg (by omega), if_pos ⟨by omega, ⟨by simp, by omega⟩, ⟨by simp, by omega⟩, by simp, by omega⟩, if_pos (by omega)]
        simp only [List.length_cons, List.length_nil]
        refine Prod.ext ?_ rfl
        simp only
        omega

/-- all characters from the front on, and the place of the first one that is none; at most so many. -/
def scan : Nat → List UInt8 → List Nat × Option Nat
  | 0, _ => ([], none)
  | f + 1, l => if l = [] then ([], none) else if dec l = (65533, 1) then ([], some 0)
      else ((dec l).1 :: (scan f (l.drop (dec l).2)).1, (scan f (l.drop (dec l).2)).2.map (· + (dec l).2))
theorem scan_more : ∀ (f g : Nat) (l : List UInt8), l.length ≤ f → l.length ≤ g → scan f l = scan g l
  | 0, 0, _, _, _ => rfl
  | 0, g + 1, l, h, _ => by
    have : l = [] := List.eq_nil_of_length_eq_zero (by omega)
    subst this
    simp [scan]
  | f + 1, 0, l, _, h => by
    have : l = [] := List.eq_nil_of_length_eq_zero (by omega)
    subst this
    simp [scan]
  | f + 1, g + 1, l, hf, hg => by
    unfold scan
    split
    · rfl
    · rename_i hne
      split
      · rfl
      · have hl : 1 ≤ l.length := by
          rcases Nat.eq_zero_or_pos l.length with h | h
          · exact absurd (List.eq_nil_of_length_eq_zero h) hne
          · exact h
        have hw := dec_width l hl
        rw [scan_more f g (l.drop (dec l).2) (by simp; omega) (by simp; omega)]

/-- all characters of bytes, and the place of the first one that is none. -/
def all (l : List UInt8) : List Nat × Option Nat := scan l.length l
theorem all_nil : all [] = ([], none) := rfl
theorem all_bad (l : List UInt8) (h : 1 ≤ l.length) (hb : dec l = (65533, 1)) : all l = ([], some 0) := by
  obtain ⟨n, hn⟩ : ∃ n, l.length = n + 1 := ⟨l.length - 1, by omega⟩
  have hne : l ≠ [] := by intro e; simp [e] at h
  unfold all
  rw [hn]
  unfold scan
  rw [if_neg hne, if_pos hb]
theorem all_step (l : List UInt8) (h : 1 ≤ l.length) (hb : dec l ≠ (65533, 1)) :
    all l = ((dec l).1 :: (all (l.drop (dec l).2)).1, (all (l.drop (dec l).2)).2.map (· + (dec l).2)) := by
  obtain ⟨n, hn⟩ : ∃ n, l.length = n + 1 := ⟨l.length - 1, by omega⟩
  have hne : l ≠ [] := by intro e; simp [e] at h
  have hw := dec_width l h
  unfold all
  rw [hn]
  conv => lhs; unfold scan
  rw [if_neg hne, if_neg hb, scan_more n _ (l.drop (dec l).2) (by simp; omega) (Nat.le_refl _)]
theorem all_len : ∀ (n : Nat) (l : List UInt8), l.length ≤ n → (all l).1.length ≤ l.length
  | 0, l, h => by
    have : l = [] := List.eq_nil_of_length_eq_zero (by omega)
    subst this
    simp [all_nil]
  | n + 1, l, h => by
    rcases Nat.eq_zero_or_pos l.length with h0 | h0
    · have : l = [] := List.eq_nil_of_length_eq_zero h0
      subst this
      simp [all_nil]
    · by_cases hb : dec l = (65533, 1)
      · rw [all_bad l h0 hb]; simp
      · have hw := dec_width l h0
        have ih := all_len n (l.drop (dec l).2) (by simp; omega)
        rw [all_step l h0 hb]
        simp at ih ⊢
        omega

end Utf
end Go.Proofs.YtfefabeamcdihaaDoor
