/- Plain mathematics of UTF-8: texts one behind the other; what was read, and written, is what it was. No condition. -/
import Derived.Test.YtfefabeamcdihaaDoorNameMath
namespace Go.Proofs.YtfefabeamcdihaaDoor
open Go.Lib

namespace Utf

theorem enc_good (c : Nat) (h : char c = true) (r : List UInt8) : dec (enc c ++ r) ≠ (65533, 1) := fun e => by
  rw [enc_dec c h r] at e
  obtain ⟨rfl, h2⟩ := Prod.mk.inj e
  exact absurd h2 (by decide)

theorem split (l : List UInt8) (h : 1 ≤ l.length) (hg : dec l ≠ (65533, 1)) : l = enc (dec l).1 ++ l.drop (dec l).2 := by
  rw [dec_enc l h hg, List.take_append_drop]
theorem dec_append (a b : List UInt8) (h : 1 ≤ a.length) (hg : dec a ≠ (65533, 1)) : dec (a ++ b) = dec a := by
  have hs := split a h hg
  have h1 := enc_dec (dec a).1 (dec_char a) (a.drop (dec a).2)
  have h2 := enc_dec (dec a).1 (dec_char a) (a.drop (dec a).2 ++ b)
  rw [← List.append_assoc, ← hs] at h2
  rw [← hs] at h1
  rw [h1, h2]

theorem all_append : ∀ (n : Nat) (a b : List UInt8), a.length ≤ n → (all a).2 = none → all (a ++ b) = ((all a).1 ++ (all b).1, (all b).2.map (· + a.length))
  | 0, a, b, h, _ => by
    have : a = [] := List.eq_nil_of_length_eq_zero (by omega)
    subst this
    simp [all_nil]
  | n + 1, a, b, h, hn => by
    rcases Nat.eq_zero_or_pos a.length with h0 | h0
    · have : a = [] := List.eq_nil_of_length_eq_zero h0
      subst this
      simp [all_nil]
    · have hg : dec a ≠ (65533, 1) := fun e => by rw [all_bad a h0 e] at hn; cases hn
      have hw := dec_width a h0
      have hd := dec_append a b h0 hg
      have hs := all_step a h0 hg
      have hs2 := all_step (a ++ b) (by simp; omega) (by rw [hd]; exact hg)
      rw [hd, List.drop_append_of_le_length (by omega)] at hs2
      have hn2 : (all (a.drop (dec a).2)).2 = none := by rw [hs] at hn; simpa using hn
      have ih := all_append n (a.drop (dec a).2) b (by simp; omega) hn2
      rw [hs2, ih, hs]
      refine Prod.ext ?_ ?_
      · simp
      · simp only [Option.map_map]
        congr 1
        funext x
        simp [Function.comp]
        omega

theorem all_enc_one (c : Nat) (h : char c = true) : all (enc c) = ([c], none) := by
  have h1 := enc_dec c h []
  have h2 := enc_good c h []
  rw [List.append_nil] at h1 h2
  have hl := enc_len c
  rw [all_step _ hl.1 h2, h1]
  simp [all_nil]

theorem all_enc : ∀ (n : Nat) (l : List UInt8), l.length ≤ n → (all l).2 = none → (all l).1.flatMap enc = l
  | 0, l, h, _ => by
    have : l = [] := List.eq_nil_of_length_eq_zero (by omega)
    subst this
    simp [all_nil]
  | n + 1, l, h, hn => by
    rcases Nat.eq_zero_or_pos l.length with h0 | h0
    · have : l = [] := List.eq_nil_of_length_eq_zero h0
      subst this
      simp [all_nil]
    · have hg : dec l ≠ (65533, 1) := fun e => by rw [all_bad l h0 e] at hn; cases hn
      have hw := dec_width l h0
      have hs := all_step l h0 hg
      have hn2 : (all (l.drop (dec l).2)).2 = none := by rw [hs] at hn; simpa using hn
      have ih := all_enc n (l.drop (dec l).2) (by simp; omega) hn2
      rw [hs]
      simp only [List.flatMap_cons]
      rw [ih]
      exact (split l h0 hg).symm

theorem all_chars : ∀ (n : Nat) (l : List UInt8), l.length ≤ n → ∀ c ∈ (all l).1, char c = true
  | 0, l, h, c, hc => by
    have : l = [] := List.eq_nil_of_length_eq_zero (by omega)
    subst this
    simp [all_nil] at hc
  | n + 1, l, h, c, hc => by
    rcases Nat.eq_zero_or_pos l.length with h0 | h0
    · have : l = [] := List.eq_nil_of_length_eq_zero h0
      subst this
      simp [all_nil] at hc
    · by_cases hg : dec l = (65533, 1)
      · rw [all_bad l h0 hg] at hc
        simp at hc
      · have hw := dec_width l h0
        rw [all_step l h0 hg] at hc
        simp only [List.mem_cons] at hc
        rcases hc with rfl | hc
        · exact dec_char l
        · exact all_chars n _ (by simp; omega) c hc

theorem all_place : ∀ (n : Nat) (l : List UInt8), l.length ≤ n → ∀ p, (all l).2 = some p → p < l.length
  | 0, l, h, p, hp => by
    have : l = [] := List.eq_nil_of_length_eq_zero (by omega)
    subst this
    simp [all_nil] at hp
  | n + 1, l, h, p, hp => by
    rcases Nat.eq_zero_or_pos l.length with h0 | h0
    · have : l = [] := List.eq_nil_of_length_eq_zero h0
      subst this
      simp [all_nil] at hp
    · by_cases hg : dec l = (65533, 1)
      · rw [all_bad l h0 hg] at hp
        simp at hp
        omega
      · have hw := dec_width l h0
        rw [all_step l h0 hg] at hp
        simp only [Option.map_eq_some_iff] at hp
        obtain ⟨q, hq, rfl⟩ := hp
        have := all_place n _ (by simp; omega) q hq
        simp at this
        omega

/-- of a text that is none, what is told is that. -/
theorem flat_len (l : List Nat) : (l.flatMap enc).length ≤ 4 * l.length := by
  induction l with
  | nil => simp
  | cons c l ih =>
    have := enc_len c
    simp only [List.flatMap_cons, List.length_append, List.length_cons]
    omega
theorem flat_take (l : List Nat) (k : Nat) (h : k < l.length) : (l.take (k + 1)).flatMap enc = (l.take k).flatMap enc ++ enc l[k] := by
  rw [List.take_succ_eq_append_getElem h, List.flatMap_append, List.flatMap_cons, List.flatMap_nil, List.append_nil]

end Utf
end Go.Proofs.YtfefabeamcdihaaDoor
