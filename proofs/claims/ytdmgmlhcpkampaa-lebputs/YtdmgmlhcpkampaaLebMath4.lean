/- Reading back numbers with a sign; what is read and put is no longer: plain mathematics of layer 1. No condition; nothing of the program. -/
import Derived.Test.YtdmgmlhcpkampaaLebMath3
namespace Go.Proofs.Ytdmgmlhcpkampaa.Leb

/-- what bytes say with a sign. -/
def sval (l : List UInt8) : Int := (joinOf l : Int) - (if 64 ≤ (l[l.length - 1]?.getD 0).toNat then 2 ^ (7 * l.length) else 0)

theorem sval_one (b : UInt8) (h : b.toNat < 128) : sval [b] = (b.toNat : Int) - (if 64 ≤ b.toNat then 128 else 0) := by
  simp [sval, joinOf]; omega
theorem sval_cons (b c : UInt8) (r : List UInt8) : sval (b :: c :: r) = (b.toNat % 128 : Nat) + 128 * sval (c :: r) := by
  unfold sval
  rw [joinOf]
  have e : (b :: c :: r)[(b :: c :: r).length - 1]? = (c :: r)[(c :: r).length - 1]? := by simp
  rw [e, show 7 * (b :: c :: r).length = 7 * (c :: r).length + 7 by simp; omega, Int.pow_add]
  split <;> omega

theorem putS_enc (n : Nat) : ∀ v : Int, v.natAbs ≤ n → Enc (putS v) ∧ sval (putS v) = v := by
  induction n using Nat.strongRecOn with
  | _ n ih =>
    intro v hv
    by_cases h : -64 ≤ v ∧ v < 64
    · rw [putS_small h]
      have hb : (v % 128).toNat < 128 := by omega
      refine ⟨enc_one hb, ?_⟩
      rw [sval_one _ (by rw [toNat_ofNat (by omega)]; exact hb), toNat_ofNat (by omega)]
      split <;> omega
    · rw [putS_big h]
      obtain ⟨h1, h2⟩ := ih (v / 128).natAbs (by omega) (v / 128) (Nat.le_refl _)
      refine ⟨enc_more (by omega) h1, ?_⟩
      cases hp : putS (v / 128) with
      | nil => rw [hp] at h1; exact h1.elim
      | cons c r =>
        rw [hp] at h2
        rw [sval_cons, h2, toNat_ofNat (by omega)]
        omega

/-- a sign's bytes are as few as can be. -/
theorem sval_bounds : ∀ {l : List UInt8} (_ : Enc l), -(2 ^ (7 * l.length - 1) : Int) ≤ sval l ∧ sval l < 2 ^ (7 * l.length - 1)
  | [], h => h.elim
  | [b], h => by
    have h' : b.toNat < 128 := h
    rw [sval_one b h']
    simp
    split <;> omega
  | b :: c :: r, h => by
    have ih := sval_bounds (l := c :: r) h.2
    rw [sval_cons]
    have e : 7 * (b :: c :: r).length - 1 = (7 * (c :: r).length - 1) + 7 := by simp; omega
    rw [e, Int.pow_add]
    have : b.toNat % 128 < 128 := Nat.mod_lt _ (by omega)
    omega

theorem sOf_enc64 {l : List UInt8} (h : Enc l) (more : List UInt8) (h1 : -9223372036854775808 ≤ sval l) (h2 : sval l < 9223372036854775808) (h10 : l.length ≤ 10) :
    sOf (l ++ more) 0 64 = some (sval l, l.length) := by
  have hp := h.pos
  have hl := joinOf_last l l.length hp (Nat.le_refl _)
  rw [List.take_length, Nat.mod_eq_of_lt h.last] at hl
  have hlast := h.last
  unfold sOf
  rw [List.drop_zero, lenOf_enc h, if_pos (by omega)]
  simp only [Nat.zero_add, List.take_left]
  have hget0 : l[l.length - 1]?.getD 0 = l[l.length - 1]'(by omega) := by simp [show l.length - 1 < l.length by omega]
  have hget : (l ++ more)[l.length - 1]?.getD 0 = l[l.length - 1]'(by omega) := by
    rw [List.getElem?_append_left (by omega)]
    exact hget0
  rw [hget]
  unfold sval at *
  rw [hget0] at h1 h2 ⊢
  obtain ⟨x, hx⟩ : ∃ x, x = (l[l.length - 1]'(by omega)).toNat := ⟨_, rfl⟩
  rw [← hx] at hl h1 h2 hlast ⊢
  rw [if_neg]
  rintro ⟨e1, e2⟩
  have e1' : l.length = 10 := by omega
  rw [e1'] at hl h1 h2
  have hev : evenB x 1 = true := by
    have h3 : (2 : Int) ^ (7 * 10) = 1180591620717411303424 := by decide
    have h4 : (2 : Nat) ^ (7 * (10 - 1)) = 9223372036854775808 := by decide
    rw [h3] at h1 h2
    rw [h4] at hl
    simp only [evenB, Nat.sub_self, Nat.pow_zero, Nat.div_one, Bool.or_eq_true, beq_iff_eq]
    split at h1 <;> omega
  rw [hev] at e2
  cases e2

theorem putS_read (v : Int) (more : List UInt8) (h1 : -9223372036854775808 ≤ v) (h2 : v < 9223372036854775808) :
    sOf (putS v ++ more) 0 64 = some (v, (putS v).length) := by
  obtain ⟨he, hv⟩ := putS_enc v.natAbs v (Nat.le_refl _)
  have := sOf_enc64 he more (by rw [hv]; exact h1) (by rw [hv]; exact h2) (putS_len10 h1 h2)
  rw [hv] at this
  exact this

theorem putS_len_of (j : Nat) (v : Int) (h : 1 ≤ j) (h1 : -(2 ^ (7 * j - 1) : Int) ≤ v) (h2 : v < 2 ^ (7 * j - 1)) : (putS v).length ≤ j := by
  obtain ⟨i, rfl⟩ : ∃ i, j = i + 1 := ⟨j - 1, by omega⟩
  have e : (2 : Int) ^ (7 * (i + 1) - 1) = 64 * 128 ^ i := by
    rw [show 7 * (i + 1) - 1 = 6 + 7 * i by omega, Int.pow_add, Int.pow_mul]; rfl
  rw [e] at h1 h2
  exact putS_len i v h1 h2

/-- the bytes that are read are a number's. -/
theorem enc_of_len : ∀ (l : List UInt8) (m j : Nat), lenOf l m = some j → Enc (l.take j) ∧ (l.take j).length = j
  | [], _, _, h => by simp [lenOf] at h
  | _ :: _, 0, _, h => by simp [lenOf] at h
  | b :: r, m + 1, j, h => by
    unfold lenOf at h
    split at h
    · injection h with h; subst h; exact ⟨by simpa [Enc], by simp⟩
    · rename_i hb
      rw [Option.map_eq_some_iff] at h
      obtain ⟨j', h', rfl⟩ := h
      obtain ⟨h1, h2⟩ := enc_of_len r m j' h'
      rw [List.take_succ_cons]
      refine ⟨?_, by simp [h2]⟩
      cases hq : r.take j' with
      | nil => rw [hq] at h1; exact h1.elim
      | cons c q => rw [hq] at h1; exact ⟨by omega, h1⟩

theorem uOf_short (bs : List UInt8) (k bits u n : Nat) (h1 : bits ≤ 64) (h : uOf bs k bits = some (u, n)) : k ≤ n ∧ (putU u).length ≤ n - k := by
  unfold uOf at h
  split at h
  · cases h
  · rename_i j hj
    obtain ⟨he, hl⟩ := enc_of_len _ _ _ hj
    obtain ⟨j1, j2, _⟩ := lenOf_of_some _ _ _ hj
    split at h
    · cases h
    · injection h with h
      injection h with e1 e2
      subst e1 e2
      refine ⟨by omega, ?_⟩
      rw [Nat.add_sub_cancel_left]
      have hlt := joinOf_lt ((bs.drop k).take j)
      rw [hl] at hlt
      exact putU_len_of j _ j1 (Nat.lt_of_le_of_lt (Nat.mod_le _ _) hlt)
theorem sOf_short (bs : List UInt8) (k bits n : Nat) (s : Int) (h : sOf bs k bits = some (s, n)) : k ≤ n ∧ (putS s).length ≤ n - k := by
  unfold sOf at h
  split at h
  · cases h
  · rename_i j hj
    obtain ⟨he, hl⟩ := enc_of_len _ _ _ hj
    obtain ⟨j1, j2, j3, _⟩ := lenOf_of_some _ _ _ hj
    split at h
    · cases h
    · injection h with h
      injection h with e1 e2
      subst e1 e2
      refine ⟨by omega, ?_⟩
      rw [Nat.add_sub_cancel_left]
      have hb := sval_bounds he
      unfold sval at hb
      rw [hl] at hb
      have e : ((bs.drop k).take j)[j - 1]? = bs[k + j - 1]? := by
        rw [List.getElem?_take, if_pos (by omega), List.getElem?_drop]; congr 1; omega
      rw [e] at hb
      exact putS_len_of j _ j1 hb.1 hb.2
/-- a number without a sign that is read is one of 64 bits; one with a sign, too. -/
theorem uOf_lt (bs : List UInt8) (k bits u n : Nat) (h : uOf bs k bits = some (u, n)) : u < 18446744073709551616 := by
  unfold uOf at h
  split at h
  · cases h
  · split at h
    · cases h
    · injection h with h
      injection h with e1 e2
      subst e1
      exact Nat.mod_lt _ (by omega)

theorem uOf_le (bs : List UInt8) (k bits u n : Nat) (h : uOf bs k bits = some (u, n)) : n ≤ bs.length := by
  unfold uOf at h
  split at h
  · cases h
  · rename_i j hj
    obtain ⟨j1, j2, j3, _⟩ := lenOf_of_some _ _ _ hj
    simp only [List.length_drop] at j3
    split at h
    · cases h
    · injection h with h
      injection h with e1 e2
      omega
theorem sOf_le (bs : List UInt8) (k bits n : Nat) (s : Int) (h : sOf bs k bits = some (s, n)) : n ≤ bs.length := by
  unfold sOf at h
  split at h
  · cases h
  · rename_i j hj
    obtain ⟨j1, j2, j3, _⟩ := lenOf_of_some _ _ _ hj
    simp only [List.length_drop] at j3
    split at h
    · cases h
    · injection h with h
      injection h with e1 e2
      omega

end Go.Proofs.Ytdmgmlhcpkampaa.Leb
