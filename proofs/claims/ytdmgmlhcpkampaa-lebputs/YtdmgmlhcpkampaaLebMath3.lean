/- Reading what was put: plain mathematics of layer 1. No condition; nothing of the program. -/
import Derived.Test.YtdmgmlhcpkampaaLebMath2
namespace Go.Proofs.Ytdmgmlhcpkampaa.Leb

/-- a number's bytes: all but the last one tell that another one follows. -/
def Enc : List UInt8 → Prop
  | [] => False
  | [b] => b.toNat < 128
  | b :: c :: r => 128 ≤ b.toNat ∧ Enc (c :: r)

theorem Enc.pos : ∀ {l : List UInt8}, Enc l → 0 < l.length
  | [], h => h.elim
  | [_], _ => by simp
  | _ :: _ :: _, _ => by simp
theorem enc_one {n : Nat} (h : n < 128) : Enc [UInt8.ofNat n] := by
  show (UInt8.ofNat n).toNat < 128
  rw [toNat_ofNat (by omega)]; exact h
theorem enc_more {n : Nat} {l : List UInt8} (h : n < 128) (hl : Enc l) : Enc (UInt8.ofNat (n + 128) :: l) := by
  cases l with
  | nil => exact hl.elim
  | cons c r => exact ⟨by rw [toNat_ofNat (by omega)]; omega, hl⟩

theorem lenOf_enc : ∀ {l : List UInt8} (_ : Enc l) (more : List UInt8) (m : Nat), lenOf (l ++ more) m = if l.length ≤ m then some l.length else none
  | [], h, _, _ => h.elim
  | [b], h, more, 0 => by simp [lenOf]
  | [b], h, more, m + 1 => by
    have h' : b.toNat < 128 := h
    simp [lenOf, h']
  | b :: c :: r, h, more, 0 => by simp [lenOf]
  | b :: c :: r, h, more, m + 1 => by
    have h1 : 128 ≤ b.toNat := h.1
    have ih := lenOf_enc h.2 more m
    have h2 : ¬ b.toNat < 128 := by omega
    rw [List.cons_append, lenOf, if_neg h2, ih]
    simp only [List.length_cons]
    by_cases hm : r.length + 1 ≤ m
    · rw [if_pos hm, if_pos (by omega)]; simp
    · rw [if_neg hm, if_neg (by omega)]; simp
theorem Enc.last : ∀ {l : List UInt8} (h : Enc l), (l[l.length - 1]'(by have := h.pos; omega)).toNat < 128
  | [], h => h.elim
  | [_], h => h
  | _ :: c :: r, h => Enc.last (l := c :: r) h.2

theorem uOf_enc {l : List UInt8} (h : Enc l) (more : List UInt8) (bits : Nat) (h0 : 1 ≤ bits) (h1 : bits ≤ 64) :
    uOf (l ++ more) 0 bits = if l.length ≤ (bits + 6) / 7 ∧ joinOf l < 2 ^ bits then some (joinOf l, l.length) else none := by
  have hp := h.pos
  have hl := joinOf_last l l.length hp (Nat.le_refl _)
  rw [List.take_length, Nat.mod_eq_of_lt h.last] at hl
  have hlt := joinOf_lt l
  unfold uOf
  rw [List.drop_zero, lenOf_enc h]
  by_cases hm : l.length ≤ (bits + 6) / 7
  · rw [if_pos hm]
    simp only [Nat.zero_add, List.take_left]
    have hget : (l ++ more)[l.length - 1]?.getD 0 = l[l.length - 1]'(by omega) := by
      rw [List.getElem?_append_left (by omega)]
      simp [show l.length - 1 < l.length by omega]
    rw [hget]
    obtain ⟨x, hx⟩ : ∃ x, x = (l[l.length - 1]'(by omega)).toNat := ⟨_, rfl⟩
    rw [← hx] at hl ⊢
    have hmod : joinOf l < 2 ^ bits → joinOf l % 18446744073709551616 = joinOf l := fun hh => Nat.mod_eq_of_lt (Nat.lt_of_lt_of_le hh (by
      have : 2 ^ bits ≤ 2 ^ 64 := Nat.pow_le_pow_right (by omega) h1
      omega))
    by_cases hj : l.length = (bits + 6) / 7
    · have hd : x / 2 ^ (bits - 7 * ((bits + 6) / 7 - 1)) = joinOf l / 2 ^ bits := by
        have e : bits = 7 * (l.length - 1) + (bits - 7 * ((bits + 6) / 7 - 1)) := by omega
        generalize bits - 7 * ((bits + 6) / 7 - 1) = q at *
        rw [e, Nat.pow_add, ← Nat.div_div_eq_div_mul, hl.1, Nat.add_mul_div_left _ _ (Nat.pow_pos (by omega)), Nat.div_eq_of_lt hl.2, Nat.zero_add]
      rw [hd]
      by_cases hf : joinOf l < 2 ^ bits
      · rw [if_neg (by rw [Nat.div_eq_of_lt hf]; simp), if_pos ⟨hm, hf⟩, hmod hf]
      · rw [if_pos ⟨hj, by rw [Nat.ne_zero_iff_zero_lt]; exact Nat.div_pos (by omega) (Nat.pow_pos (by omega))⟩, if_neg (fun hh => hf hh.2)]
    · have hf : joinOf l < 2 ^ bits := Nat.lt_of_lt_of_le hlt (Nat.pow_le_pow_right (by omega) (by omega))
      rw [if_neg (fun hh => hj hh.1), if_pos ⟨hm, hf⟩, hmod hf]
  · rw [if_neg hm, if_neg (fun hh => hm hh.1)]

theorem padU_enc : ∀ (n v : Nat), Enc (padU v n)
  | 0, v => enc_one (Nat.mod_lt _ (by omega))
  | n + 1, v => enc_more (Nat.mod_lt _ (by omega)) (padU_enc n (v / 128))
theorem padU_length : ∀ (n v : Nat), (padU v n).length = n + 1
  | 0, _ => rfl
  | n + 1, v => by rw [padU, List.length_cons, padU_length n]
theorem padU_join : ∀ (n v : Nat), v < 128 ^ (n + 1) → joinOf (padU v n) = v
  | 0, v, h => by
    rw [padU, joinOf, joinOf, toNat_ofNat (by omega)]; omega
  | n + 1, v, h => by
    rw [padU, joinOf, toNat_ofNat (by omega), padU_join n (v / 128) (by rw [Nat.pow_succ] at h; exact Nat.div_lt_of_lt_mul (by rw [Nat.mul_comm]; exact h))]; omega
theorem pad_read (v : Nat) (h : v < 4294967296) : uOf (padU v 4) 0 32 = some (v, 5) := by
  have := uOf_enc (padU_enc 4 v) [] 32 (by decide) (by decide)
  rw [List.append_nil, padU_length, padU_join 4 v (by omega), if_pos ⟨by decide, by omega⟩] at this
  exact this

theorem putU_enc (v : Nat) : Enc (putU v) := by
  induction v using Nat.strongRecOn with
  | _ v ih =>
    by_cases h : v < 128
    · rw [putU_small h]; exact enc_one h
    · rw [putU_big h]; exact enc_more (Nat.mod_lt _ (by omega)) (ih (v / 128) (by omega))
theorem putU_join (v : Nat) : joinOf (putU v) = v := by
  induction v using Nat.strongRecOn with
  | _ v ih =>
    by_cases h : v < 128
    · rw [putU_small h, joinOf, joinOf, toNat_ofNat (by omega)]; omega
    · rw [putU_big h, joinOf, toNat_ofNat (by omega), ih (v / 128) (by omega)]; omega
theorem putU_len_of (j v : Nat) (h : 1 ≤ j) (hv : v < 2 ^ (7 * j)) : (putU v).length ≤ j := by
  obtain ⟨i, rfl⟩ : ∃ i, j = i + 1 := ⟨j - 1, by omega⟩
  exact putU_len i v (by rw [show (128 : Nat) = 2 ^ 7 from rfl, ← Nat.pow_mul]; exact hv)

theorem put_read (v bits : Nat) (more : List UInt8) (h0 : 1 ≤ bits) (h1 : bits ≤ 64) :
    uOf (putU v ++ more) 0 bits = if v < 2 ^ bits then some (v, (putU v).length) else none := by
  rw [uOf_enc (putU_enc v) more bits h0 h1, putU_join]
  by_cases hv : v < 2 ^ bits
  · rw [if_pos hv, if_pos ⟨putU_len_of _ v (by omega) (Nat.lt_of_lt_of_le hv (Nat.pow_le_pow_right (by omega) (by omega))), hv⟩]
  · rw [if_neg hv, if_neg (fun hh => hv hh.2)]

end Go.Proofs.Ytdmgmlhcpkampaa.Leb
