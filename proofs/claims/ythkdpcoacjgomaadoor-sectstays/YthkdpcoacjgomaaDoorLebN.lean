/- The document's answer for layer 1, bit by bit: plain mathematics. No condition; nothing of the program. -/
import Derived.Test.YthkdpcoacjgomaaDoorLebM
set_option linter.unusedVariables false
set_option linter.unusedSimpArgs false
namespace Go.Proofs.YthkdpcoacjgomaaDoor.Leb

def bitAt (D t : Nat) : Nat := D / 2 ^ t % 2
/-- the 64 bits: the lowest M of D, all others like one bit. -/
def finalV (D M more : Nat) : Nat := D % 2 ^ M + more * (2 ^ 64 - 2 ^ M)
/-- all bits from a to b are this one. -/
def allBits (D more a b : Nat) : Prop := ∀ i, a ≤ i → i < b → bitAt D i = more

theorem bitAt_le (D t : Nat) : bitAt D t ≤ 1 := by unfold bitAt; omega

theorem finalV_lt (D M more : Nat) (hM : M ≤ 64) (hm : more ≤ 1) : finalV D M more < 18446744073709551616 := by
  unfold finalV
  have h1 : D % 2 ^ M < 2 ^ M := Nat.mod_lt _ (Nat.pow_pos (by omega))
  have h2 : 2 ^ M ≤ 2 ^ 64 := Nat.pow_le_pow_right (by omega) hM
  have : more = 0 ∨ more = 1 := by omega
  rcases this with rfl | rfl <;> omega

theorem finalV_bit (D M more t : Nat) (hM : M ≤ 64) (hm : more ≤ 1) (ht : t < 64) : finalV D M more / 2 ^ t % 2 = if t < M then bitAt D t else more := by
  have h1 : D % 2 ^ M < 2 ^ M := Nat.mod_lt _ (Nat.pow_pos (by omega))
  have hP : 2 ^ M ≤ 2 ^ 64 := Nat.pow_le_pow_right (by omega) hM
  by_cases h : t < M
  · rw [if_pos h]
    unfold finalV bitAt
    have e1 : 2 ^ 64 - 2 ^ M = 2 ^ t * (2 * (2 ^ (64 - t - 1) - 2 ^ (M - t - 1))) := by
      rw [Nat.mul_sub, Nat.mul_sub, ← Nat.pow_succ', ← Nat.pow_succ', ← Nat.pow_add, ← Nat.pow_add]
      congr 2 <;> omega
    have e2 : more * (2 ^ 64 - 2 ^ M) = 2 ^ t * (2 * (more * (2 ^ (64 - t - 1) - 2 ^ (M - t - 1)))) := by
      rw [e1, Nat.mul_left_comm, Nat.mul_left_comm more 2]
    rw [e2, Nat.add_mul_div_left _ _ (Nat.pow_pos (by omega)), Nat.add_mul_mod_self_left]
    have e3 : D = D % 2 ^ M + 2 ^ t * (2 * (2 ^ (M - t - 1) * (D / 2 ^ M))) := by
      rw [← Nat.mul_assoc 2, ← Nat.pow_succ', ← Nat.mul_assoc, ← Nat.pow_add, show t + (M - t - 1 + 1) = M by omega]
      exact (Nat.mod_add_div D (2 ^ M)).symm
    conv => rhs; rw [e3, Nat.add_mul_div_left _ _ (Nat.pow_pos (by omega)), Nat.add_mul_mod_self_left]
  · rw [if_neg h]
    have hMt : 2 ^ M ≤ 2 ^ t := Nat.pow_le_pow_right (by omega) (by omega)
    have hmm : more = 0 ∨ more = 1 := by omega
    unfold finalV
    rcases hmm with rfl | rfl
    · rw [Nat.zero_mul, Nat.add_zero, Nat.div_eq_of_lt (by omega)]
    · rw [Nat.one_mul]
      obtain ⟨q, hq⟩ : ∃ q, 2 ^ 64 = 2 ^ t * (2 * q) := ⟨2 ^ (64 - t - 1), by rw [← Nat.pow_succ', ← Nat.pow_add]; congr 1; omega⟩
      have hq0 : 0 < q := Nat.pos_of_ne_zero (fun e => by rw [e] at hq; simp at hq)
      have : (D % 2 ^ M + (2 ^ 64 - 2 ^ M)) / 2 ^ t = 2 * q - 1 := by
        rw [Nat.div_eq_iff (Nat.pow_pos (by omega))]
        have e4 : (2 * q - 1) * 2 ^ t = 2 ^ 64 - 2 ^ t := by rw [Nat.sub_mul, Nat.one_mul, Nat.mul_comm (2 * q), ← hq]
        rw [e4]
        have hle : 2 ^ t ≤ 2 ^ 64 := Nat.pow_le_pow_right (by omega) (by omega)
        omega
      rw [this]; omega

theorem joinOf_digit : ∀ (l : List UInt8) (t : Nat) (h : t < l.length), joinOf l / 2 ^ (7 * t) % 128 = (l[t]).toNat % 128
  | [], _, h => absurd h (by simp)
  | b :: r, 0, _ => by rw [joinOf, Nat.mul_zero, Nat.pow_zero, Nat.div_one, List.getElem_cons_zero]; omega
  | b :: r, t + 1, h => by
    rw [joinOf, show 7 * (t + 1) = 7 + 7 * t by omega, Nat.pow_add, ← Nat.div_div_eq_div_mul, show (2 : Nat) ^ 7 = 128 from rfl,
      show (b.toNat % 128 + 128 * joinOf r) / 128 = joinOf r by omega, joinOf_digit r t (by simpa using h)]
    rfl

theorem all_zero (D a b : Nat) (hD : D < 2 ^ b) : allBits D 0 a b ↔ D < 2 ^ a := by
  constructor
  · intro h
    refine Nat.lt_pow_two_of_testBit D fun i hi => ?_
    rw [Nat.testBit_eq_decide_div_mod_eq]
    rcases Nat.lt_or_ge i b with h1 | h1
    · have := h i hi h1
      unfold bitAt at this
      simp [this]
    · have : D / 2 ^ i = 0 := Nat.div_eq_of_lt (Nat.lt_of_lt_of_le hD (Nat.pow_le_pow_right (by omega) h1))
      simp [this]
  · intro h i hi _
    unfold bitAt
    rw [Nat.div_eq_of_lt (Nat.lt_of_lt_of_le h (Nat.pow_le_pow_right (by omega) hi))]

/-- uOf by the number of all bits. -/
theorem uOf_join (bs : List UInt8) (k bits j : Nat) (h0 : 1 ≤ bits) (h1 : bits ≤ 64) (hj : lenOf (bs.drop k) ((bits + 6) / 7) = some j) :
    uOf bs k bits = if joinOf ((bs.drop k).take j) < 2 ^ bits then some (joinOf ((bs.drop k).take j), k + j) else none := by
  obtain ⟨he, hl⟩ := enc_of_len _ _ _ hj
  obtain ⟨j1, j2, j3, j4⟩ := lenOf_of_some _ _ _ hj
  have h := uOf_enc he ((bs.drop k).drop j) bits h0 h1
  rw [List.take_append_drop, hl] at h
  have e : uOf bs k bits = (uOf (bs.drop k) 0 bits).map fun p => (p.1, k + p.2) := by
    unfold uOf
    rw [List.drop_zero, hj]
    have eg : (bs.drop k)[0 + j - 1]? = bs[k + j - 1]? := by rw [List.getElem?_drop]; congr 1; omega
    simp only [eg]
    split <;> simp
  rw [e, h]
  by_cases hd : joinOf ((bs.drop k).take j) < 2 ^ bits
  · rw [if_pos ⟨j2, hd⟩, if_pos hd]; rfl
  · rw [if_neg (fun hh => hd hh.2), if_neg hd]; rfl

theorem uOf_ref (bs : List UInt8) (k bits j : Nat) (h0 : 1 ≤ bits) (h1 : bits ≤ 64) (hj : lenOf (bs.drop k) ((bits + 6) / 7) = some j) :
    (allBits (joinOf ((bs.drop k).take j)) 0 bits (7 * j) → uOf bs k bits = some (finalV (joinOf ((bs.drop k).take j)) (min (7 * j) bits) 0, k + j)) ∧
    (¬ allBits (joinOf ((bs.drop k).take j)) 0 bits (7 * j) → uOf bs k bits = none) := by
  obtain ⟨he, hl⟩ := enc_of_len _ _ _ hj
  have hlt := joinOf_lt ((bs.drop k).take j)
  rw [hl] at hlt
  rw [uOf_join bs k bits j h0 h1 hj, all_zero _ _ _ hlt]
  refine ⟨fun h => ?_, fun h => by rw [if_neg h]⟩
  rw [if_pos h, finalV, Nat.zero_mul, Nat.add_zero, Nat.mod_eq_of_lt]
  rcases Nat.le_total (7 * j) bits with h2 | h2
  · rw [Nat.min_eq_left h2]; exact hlt
  · rw [Nat.min_eq_right h2]; exact h

theorem top_same : ∀ q, q < 7 → 1 ≤ q → ∀ T, T < 2 ^ (8 - q) → ((T = 0 ∨ T = 2 ^ (8 - q) - 1) ↔ ∀ u, u < 8 - q → T / 2 ^ u % 2 = T % 2) := by
  decide +kernel
theorem top_127 : ∀ q, q < 8 → 1 ≤ q → 127 / 2 ^ (q - 1) = 2 ^ (8 - q) - 1 := by decide

def moreOf (D j bits : Nat) : Nat := if bits < 7 * j then bitAt D (bits - 1) else bitAt D (7 * j - 1)

theorem sOf_ref (bs : List UInt8) (k bits j : Nat) (h0 : 1 ≤ bits) (h1 : bits ≤ 64) (hj : lenOf (bs.drop k) ((bits + 6) / 7) = some j) :
    (allBits (joinOf ((bs.drop k).take j)) (moreOf (joinOf ((bs.drop k).take j)) j bits) bits (7 * j) →
      ∃ s, sOf bs k bits = some (s, k + j) ∧ s % 18446744073709551616 = finalV (joinOf ((bs.drop k).take j)) (min (7 * j) bits) (moreOf (joinOf ((bs.drop k).take j)) j bits)) ∧
    (¬ allBits (joinOf ((bs.drop k).take j)) (moreOf (joinOf ((bs.drop k).take j)) j bits) bits (7 * j) → sOf bs k bits = none) := by
  obtain ⟨he, hl⟩ := enc_of_len _ _ _ hj
  obtain ⟨j1, j2, j3, j4⟩ := lenOf_of_some _ _ _ hj
  have hlt := joinOf_lt ((bs.drop k).take j)
  rw [hl] at hlt
  simp only [List.length_drop] at j3
  have hlast := joinOf_last (bs.drop k) j j1 (by simp only [List.length_drop]; omega)
  have e3 : (bs.drop k)[j - 1]'(by simp; omega) = bs[k + j - 1]'(by omega) := by simp [show k + (j - 1) = k + j - 1 by omega]
  have hget : bs[k + j - 1]?.getD 0 = bs[k + j - 1]'(by omega) := by simp [show k + j - 1 < bs.length by omega]
  rw [e3] at hlast j4
  unfold sOf
  rw [hj]
  simp only [hget]
  obtain ⟨x, hx⟩ : ∃ x, x = (bs[k + j - 1]'(by omega)).toNat := ⟨_, rfl⟩
  rw [← hx] at hlast j4 ⊢
  generalize joinOf ((bs.drop k).take j) = D at *
  generalize joinOf ((bs.drop k).take (j - 1)) = D0 at *
  rw [Nat.mod_eq_of_lt j4] at hlast
  have hDx : D / 2 ^ (7 * (j - 1)) = x := by
    rw [hlast.1, Nat.add_mul_div_left _ _ (Nat.pow_pos (by omega)), Nat.div_eq_of_lt hlast.2, Nat.zero_add]
  clear hx he hl
  rcases Nat.lt_or_ge bits (7 * j) with hb | hb
  · -- more bits are written than count
    have hjm : j = (bits + 6) / 7 := by omega
    obtain ⟨q, hq⟩ : ∃ q, q = bits - 7 * ((bits + 6) / 7 - 1) := ⟨_, rfl⟩
    have hq1 : 1 ≤ q := by omega
    have hq7 : q < 7 := by omega
    have hbits : bits = 7 * (j - 1) + q := by omega
    rw [← hq]
    have hT : D / 2 ^ (bits - 1) = x / 2 ^ (q - 1) := by
      rw [show bits - 1 = 7 * (j - 1) + (q - 1) by omega, Nat.pow_add, ← Nat.div_div_eq_div_mul, hDx]
    have hTlt : x / 2 ^ (q - 1) < 2 ^ (8 - q) := by
      rw [Nat.div_lt_iff_lt_mul (Nat.pow_pos (by omega)), ← Nat.pow_add, show 8 - q + (q - 1) = 7 by omega]
      exact j4
    have hmore : moreOf D j bits = x / 2 ^ (q - 1) % 2 := by rw [moreOf, if_pos hb, bitAt, hT]
    have hall : allBits D (moreOf D j bits) bits (7 * j) ↔ ∀ u, u < 8 - q → x / 2 ^ (q - 1) / 2 ^ u % 2 = x / 2 ^ (q - 1) % 2 := by
      rw [hmore]
      constructor
      · intro h u hu
        rcases Nat.eq_zero_or_pos u with h2 | h2
        · subst h2; simp
        · have := h (bits - 1 + u) (by omega) (by omega)
          rw [bitAt, Nat.pow_add, ← Nat.div_div_eq_div_mul, hT] at this
          exact this
      · intro h i hi1 hi2
        have := h (i - (bits - 1)) (by omega)
        rw [← hT, Nat.div_div_eq_div_mul, ← Nat.pow_add, show bits - 1 + (i - (bits - 1)) = i by omega] at this
        rw [bitAt, this, hT]
    have hts := top_same q hq7 hq1 (x / 2 ^ (q - 1)) hTlt
    have hev : evenB x q = true ↔ (x / 2 ^ (q - 1) = 0 ∨ x / 2 ^ (q - 1) = 2 ^ (8 - q) - 1) := by
      rw [evenB, top_127 q (by omega) hq1]; simp
    refine ⟨fun h => ?_, fun h => ?_⟩
    · have ht := hts.2 (hall.1 h)
      have hE := hev.2 ht
      refine ⟨_, by rw [if_neg (by rintro ⟨_, h3⟩; rw [hE] at h3; cases h3)], ?_⟩
      rw [Nat.min_eq_right (by omega), hmore, finalV]
      have hPL : 2 ^ (7 * j) = 2 ^ (8 - q) * 2 ^ (bits - 1) := by rw [← Nat.pow_add]; congr 1; omega
      have hPb : 2 ^ bits = 2 * 2 ^ (bits - 1) := by rw [← Nat.pow_succ']; congr 1; omega
      have hPb64 : 2 ^ bits ≤ 2 ^ 64 := Nat.pow_le_pow_right (by omega) h1
      have hcast : ((2 : Int) ^ (7 * j)) = ((2 ^ (7 * j) : Nat) : Int) := by simp
      rcases ht with ht | ht
      · rw [ht]
        have hD : D < 2 ^ (bits - 1) := by
          rcases Nat.lt_or_ge D (2 ^ (bits - 1)) with h4 | h4
          · exact h4
          · have := Nat.div_pos h4 (Nat.pow_pos (by omega)); omega
        have hx64 : ¬ 64 ≤ x := by
          intro h6
          have : 0 < x / 2 ^ (q - 1) := Nat.div_pos (Nat.le_trans (Nat.pow_le_pow_right (by omega) (show q - 1 ≤ 6 by omega)) h6) (Nat.pow_pos (by omega))
          omega
        rw [if_neg hx64, Nat.mod_eq_of_lt (show D < 2 ^ bits by omega)]
        generalize 2 ^ (bits - 1) = P at *
        simp
        omega
      · rw [ht]
        have hq8 : 2 ≤ 2 ^ (8 - q) := Nat.le_trans (by decide) (Nat.pow_le_pow_right (by omega) (show 1 ≤ 8 - q by omega))
        obtain ⟨r, hr⟩ : ∃ r, 2 ^ (8 - q) = 2 * r := ⟨2 ^ (7 - q), by rw [← Nat.pow_succ']; congr 1; omega⟩
        have hx64 : 64 ≤ x := by
          have h5 : (2 ^ (8 - q) - 1) * 2 ^ (q - 1) ≤ x := by rw [← ht]; exact Nat.div_mul_le_self _ _
          rw [Nat.sub_mul, ← Nat.pow_add, show 8 - q + (q - 1) = 7 by omega] at h5
          have : 2 ^ (q - 1) ≤ 2 ^ 5 := Nat.pow_le_pow_right (by omega) (by omega)
          omega
        have hD : (2 ^ (8 - q) - 1) * 2 ^ (bits - 1) ≤ D := by rw [← ht, ← hT]; exact Nat.div_mul_le_self _ _
        rw [Nat.sub_mul, ← hPL, Nat.one_mul] at hD
        rw [if_pos hx64, hcast]
        have hmod : D % 2 ^ bits = D - (2 ^ (7 * j) - 2 ^ bits) := by
          have h6 : 2 ^ (7 * j) - 2 ^ bits = 2 ^ bits * (r - 1) := by
            rw [hPL, hr, hPb, Nat.mul_sub, Nat.mul_one]
            congr 1
            rw [Nat.mul_comm 2 r, Nat.mul_assoc, Nat.mul_comm r]
          have h7 : D = D - (2 ^ (7 * j) - 2 ^ bits) + 2 ^ bits * (r - 1) := by omega
          conv => lhs; rw [h7]
          rw [Nat.add_mul_mod_self_left, Nat.mod_eq_of_lt (by omega)]
        rw [hmod, show (2 ^ (8 - q) - 1) % 2 = 1 by omega, Nat.one_mul]
        have hle : 2 ^ bits ≤ 2 ^ (7 * j) := Nat.pow_le_pow_right (by omega) (by omega)
        generalize 2 ^ (7 * j) = PL at *
        generalize 2 ^ bits = PB at *
        generalize 2 ^ (bits - 1) = PB1 at *
        omega
    · have hE : evenB x q = false := by
        cases h3 : evenB x q
        · rfl
        · exact absurd (hall.2 (hts.1 (hev.1 h3))) h
      rw [if_pos ⟨hjm, hE⟩]
  · -- no more bits are written than count
    have hall : allBits D (moreOf D j bits) bits (7 * j) := fun i hi1 hi2 => by omega
    refine ⟨fun _ => ?_, fun h => absurd hall h⟩
    have hmore : moreOf D j bits = x / 64 := by
      rw [moreOf, if_neg (by omega), bitAt, show 7 * j - 1 = 7 * (j - 1) + 6 by omega, Nat.pow_add, ← Nat.div_div_eq_div_mul, hDx]
      omega
    have hnb : ¬ (j = (bits + 6) / 7 ∧ evenB x (bits - 7 * ((bits + 6) / 7 - 1)) = false) := by
      rintro ⟨e1, e2⟩
      rw [show bits - 7 * ((bits + 6) / 7 - 1) = 7 by omega] at e2
      simp [evenB] at e2
      omega
    refine ⟨_, by rw [if_neg hnb], ?_⟩
    rw [Nat.min_eq_left hb, hmore, finalV, Nat.mod_eq_of_lt hlt]
    have hcast : ((2 : Int) ^ (7 * j)) = ((2 ^ (7 * j) : Nat) : Int) := by simp
    have hP64 : 2 ^ (7 * j) ≤ 2 ^ 64 := Nat.pow_le_pow_right (by omega) (by omega)
    rw [hcast]
    generalize 2 ^ (7 * j) = PL at *
    by_cases h6 : 64 ≤ x
    · rw [if_pos h6, show x / 64 = 1 by omega]; omega
    · rw [if_neg h6, show x / 64 = 0 by omega]; omega

end Go.Proofs.YthkdpcoacjgomaaDoor.Leb

/- The document's way to put a number: the fewest digits that are read as it. Plain mathematics of layer 1. No condition; nothing of the program. -/
namespace Go.Proofs.YthkdpcoacjgomaaDoor.Leb

/-- n + 1 digits of a number, those of a negative one going on with its sign. -/
def padZ (z : Int) : Nat → List UInt8
  | 0 => [UInt8.ofNat (z % 128).toNat]
  | n + 1 => UInt8.ofNat ((z % 128).toNat + 128) :: padZ (z / 128) n
/-- the i-th of them. -/
def candB (z : Int) (n i : Nat) : UInt8 := UInt8.ofNat ((z / 128 ^ i % 128).toNat + if i < n then 128 else 0)

theorem cand_eq : ∀ (n : Nat) (z : Int), (List.range (n + 1)).map (candB z n) = padZ z n
  | 0, z => by simp [candB, padZ]
  | n + 1, z => by
    rw [List.range_succ_eq_map, List.map_cons, List.map_map, padZ, ← cand_eq n (z / 128)]
    congr 1
    · simp [candB]
    · refine List.map_congr_left fun i hi => ?_
      simp only [Function.comp, candB, Nat.succ_eq_add_one, Nat.add_lt_add_iff_right]
      rw [Int.pow_succ, Int.mul_comm, ← Int.ediv_ediv_of_nonneg (by decide)]

theorem emod128 (z k : Int) (hk : 0 < k) : z % (128 * k) = z % 128 + 128 * (z / 128 % k) := by
  have h1 := Int.emod_nonneg (z / 128) (show k ≠ 0 by omega)
  have h2 := Int.emod_lt_of_pos (z / 128) hk
  have h3 := Int.emod_add_mul_ediv (z / 128) k
  refine ((Int.ediv_emod_unique (a := z) (b := 128 * k) (q := z / 128 / k) (show 0 < 128 * k by omega)).2 ⟨?_, by omega, ?_⟩).2
  · rw [Int.mul_assoc]
    generalize z / 128 / k = q at *
    generalize k * q = y at *
    omega
  · omega

theorem padZ_enc : ∀ (n : Nat) (z : Int), Enc (padZ z n)
  | 0, z => enc_one (by omega)
  | n + 1, z => enc_more (by omega) (padZ_enc n (z / 128))
theorem padZ_length : ∀ (n : Nat) (z : Int), (padZ z n).length = n + 1
  | 0, _ => rfl
  | n + 1, z => by rw [padZ, List.length_cons, padZ_length n]
theorem padZ_join : ∀ (n : Nat) (z : Int), (joinOf (padZ z n) : Int) = z % 128 ^ (n + 1)
  | 0, z => by
    rw [padZ, joinOf, joinOf, toNat_ofNat (by omega)]; simp; omega
  | n + 1, z => by
    rw [padZ, joinOf, toNat_ofNat (by omega)]
    have ih := padZ_join n (z / 128)
    have e : z % 128 ^ (n + 1 + 1) = z % 128 + 128 * (z / 128 % 128 ^ (n + 1)) := by
      rw [Int.pow_succ 128 (n + 1), Int.mul_comm, emod128 _ _ (Int.pow_pos (by decide))]
    rw [e, ← ih]
    omega
theorem padZ_sval : ∀ (n : Nat) (z : Int), sval (padZ z n) = (z + 64 * 128 ^ n) % (128 * 128 ^ n) - 64 * 128 ^ n
  | 0, z => by
    rw [padZ, sval_one _ (by rw [toNat_ofNat (by omega)]; omega), toNat_ofNat (by omega)]
    simp
    split <;> omega
  | n + 1, z => by
    have ih := padZ_sval n (z / 128)
    cases hp : padZ (z / 128) n with
    | nil => have := padZ_length n (z / 128); rw [hp] at this; simp at this
    | cons c r =>
      rw [hp] at ih
      rw [padZ, hp, sval_cons, ih, toNat_ofNat (by omega)]
      have e : (z + 64 * 128 ^ (n + 1)) % (128 * 128 ^ (n + 1)) = z % 128 + 128 * ((z / 128 + 64 * 128 ^ n) % (128 * 128 ^ n)) := by
        have e1 : (128 : Int) ^ (n + 1) = 128 * 128 ^ n := by rw [Int.pow_succ, Int.mul_comm]
        rw [e1, emod128 _ _ (by have : (0 : Int) < 128 ^ n := Int.pow_pos (by decide); omega)]
        have e2 : z + 64 * (128 * 128 ^ n) = z + 128 * (64 * 128 ^ n) := by omega
        rw [e2, Int.add_mul_emod_self_left, Int.add_mul_ediv_left _ _ (by decide)]
      rw [e]
      have e1 : (128 : Int) ^ (n + 1) = 128 * 128 ^ n := by rw [Int.pow_succ, Int.mul_comm]
      rw [e1]
      omega

/-- what was put is so many digits, the fewest. -/
theorem putU_pad (v : Nat) : ∃ n, putU v = padZ v n ∧ v < 128 ^ (n + 1) ∧ ∀ m, m < n → 128 ^ (m + 1) ≤ v := by
  induction v using Nat.strongRecOn with
  | _ v ih =>
    by_cases h : v < 128
    · refine ⟨0, ?_, by simpa using h, fun m hm => absurd hm (by omega)⟩
      rw [putU_small h, padZ]; congr 2; omega
    · obtain ⟨n, h1, h2, h3⟩ := ih (v / 128) (by omega)
      refine ⟨n + 1, ?_, ?_, fun m hm => ?_⟩
      · rw [putU_big h, padZ, h1]
        congr 1
      · rw [Nat.pow_succ]; omega
      · rcases m with _ | m
        · omega
        · have := h3 m (by omega)
          rw [Nat.pow_succ]; omega
theorem putS_pad (k : Nat) : ∀ z : Int, z.natAbs ≤ k → ∃ n, putS z = padZ z n ∧ -(64 * 128 ^ n) ≤ z ∧ z < 64 * 128 ^ n ∧ ∀ m, m < n → ¬ (-(64 * 128 ^ m) ≤ z ∧ z < 64 * 128 ^ m) := by
  induction k using Nat.strongRecOn with
  | _ k ih =>
    intro z hz
    by_cases h : -64 ≤ z ∧ z < 64
    · exact ⟨0, by rw [putS_small h, padZ], by omega, by omega, fun m hm => absurd hm (by omega)⟩
    · obtain ⟨n, h1, h2, h3, h4⟩ := ih (z / 128).natAbs (by omega) (z / 128) (Nat.le_refl _)
      refine ⟨n + 1, by rw [putS_big h, padZ, h1], ?_, ?_, fun m hm => ?_⟩
      · rw [Int.pow_succ]; omega
      · rw [Int.pow_succ]; omega
      · rcases m with _ | m
        · omega
        · have := h4 m (by omega)
          rw [Int.pow_succ]; omega

/-- what so many digits are read as, without a sign. -/
theorem padU_read (v n : Nat) (hv : v < 18446744073709551616) (hn : n ≤ 9) : uOf (padZ v n) 0 64 = some (v % 128 ^ (n + 1), n + 1) := by
  have h := uOf_enc (padZ_enc n v) [] 64 (by decide) (by decide)
  have hj := padZ_join n v
  have hjN : joinOf (padZ v n) = v % 128 ^ (n + 1) := by
    have e : ((v : Int) % 128 ^ (n + 1)) = ((v % 128 ^ (n + 1) : Nat) : Int) := by simp
    rw [e] at hj
    exact Int.ofNat.inj hj
  rw [List.append_nil, padZ_length, hjN, if_pos ⟨by omega, Nat.lt_of_le_of_lt (Nat.mod_le _ _) (by omega)⟩] at h
  exact h
/-- .. and with one. -/
theorem padS_read (z : Int) (n : Nat) (h1 : -9223372036854775808 ≤ z) (h2 : z < 9223372036854775808) (hn : n ≤ 9) :
    ∃ s, sOf (padZ z n) 0 64 = some (s, n + 1) ∧ -9223372036854775808 ≤ s ∧ s < 9223372036854775808 ∧ (-(64 * 128 ^ n) ≤ s ∧ s < 64 * 128 ^ n) ∧ (-(64 * 128 ^ n) ≤ z ∧ z < 64 * 128 ^ n → s = z) := by
  have hs := padZ_sval n z
  have hp : (0 : Int) < 128 ^ n := Int.pow_pos (by decide)
  have hb : -(64 * 128 ^ n) ≤ sval (padZ z n) ∧ sval (padZ z n) < 64 * 128 ^ n := by
    rw [hs]
    have := Int.emod_nonneg (z + 64 * 128 ^ n) (show (128 * 128 ^ n : Int) ≠ 0 by omega)
    have := Int.emod_lt_of_pos (z + 64 * 128 ^ n) (show (0 : Int) < 128 * 128 ^ n by omega)
    omega
  have hz : -(64 * 128 ^ n) ≤ z ∧ z < 64 * 128 ^ n → sval (padZ z n) = z := fun hh => by
    rw [hs, Int.emod_eq_of_lt (by omega) (by omega)]; omega
  have hr : -9223372036854775808 ≤ sval (padZ z n) ∧ sval (padZ z n) < 9223372036854775808 := by
    rcases Nat.lt_or_ge n 9 with h9 | h9
    · have hpw : (128 : Int) ^ n ≤ 128 ^ 8 := by
        have : (128 : Nat) ^ n ≤ 128 ^ 8 := Nat.pow_le_pow_right (by omega) (by omega)
        exact_mod_cast this
      have h8 : (128 : Int) ^ 8 = 72057594037927936 := by decide
      omega
    · have : n = 9 := by omega
      subst this
      have h9 : (128 : Int) ^ 9 = 9223372036854775808 := by decide
      rw [hz (by omega)]
      exact ⟨h1, h2⟩
  have h := sOf_enc64 (padZ_enc n z) [] hr.1 hr.2 (by rw [padZ_length]; omega)
  rw [List.append_nil, padZ_length] at h
  exact ⟨_, h, hr.1, hr.2, hb, hz⟩

end Go.Proofs.YthkdpcoacjgomaaDoor.Leb
