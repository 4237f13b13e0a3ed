/- The document's way to put a number: the fewest digits that are read as it. Plain mathematics of layer 1. No condition; nothing of the program. -/
import Derived.Test.YtdmgmlhcpkampaaLebMath4
namespace Go.Proofs.Ytdmgmlhcpkampaa.Leb

/-- n + 1 digits of a number, those of a negative one going on with its sign. -/
def padZ (z : Int) : Nat → List UInt8
  | 0 => [UInt8.ofNat (z % 128).toNat]
  | n + 1 => UInt8.ofNat ((z % 128).toNat + 128) :: padZ (z / 128) n
/-- the i-th of them. -/
def candB (z : Int) (n i : Nat) : UInt8 := UInt8.ofNat ((z / 128 ^ i % 128).toNat + if i < n then 128 else 0)

theorem cand_eq : ∀ (n : Nat) (z : Int), (List.range (n + 1)).map (candB z n) = padZ z n
  | 0, z => by simp [candB, padZ]
  | n + 1, z => by
    rw [List.range_succ_eq_map, List.map_cons, List.map_map, padZ, ← cand_eq n (z / 128)]
    congr 1
    · simp [candB]
    · refine List.map_congr_left fun i hi => ?_
      simp only [Function.comp, candB, Nat.succ_eq_add_one, Nat.add_lt_add_iff_right]
      rw [Int.pow_succ, Int.mul_comm, ← Int.ediv_ediv_of_nonneg (by decide)]

theorem emod128 (z k : Int) (hk : 0 < k) : z % (128 * k) = z % 128 + 128 * (z / 128 % k) := by
  have h1 := Int.emod_nonneg (z / 128) (show k ≠ 0 by omega)
  have h2 := Int.emod_lt_of_pos (z / 128) hk
  have h3 := Int.emod_add_mul_ediv (z / 128) k
  refine ((Int.ediv_emod_unique (a := z) (b := 128 * k) (q := z / 128 / k) (show 0 < 128 * k by omega)).2 ⟨?_, by omega, ?_⟩).2
  · rw [Int.mul_assoc]
    generalize z / 128 / k = q at *
    generalize k * q = y at *
    omega
  · omega

theorem padZ_enc : ∀ (n : Nat) (z : Int), Enc (padZ z n)
  | 0, z => enc_one (by omega)
  | n + 1, z => enc_more (by omega) (padZ_enc n (z / 128))
theorem padZ_length : ∀ (n : Nat) (z : Int), (padZ z n).length = n + 1
  | 0, _ => rfl
  | n + 1, z => by rw [padZ, List.length_cons, padZ_length n]
theorem padZ_join : ∀ (n : Nat) (z : Int), (joinOf (padZ z n) : Int) = z % 128 ^ (n + 1)
  | 0, z => by
    rw [padZ, joinOf, joinOf, toNat_ofNat (by omega)]; simp; omega
  | n + 1, z => by
    rw [padZ, joinOf, toNat_ofNat (by omega)]
    have ih := padZ_join n (z / 128)
    have e : z % 128 ^ (n + 1 + 1) = z % 128 + 128 * (z / 128 % 128 ^ (n + 1)) := by
      rw [Int.pow_succ 128 (n + 1), Int.mul_comm, emod128 _ _ (Int.pow_pos (by decide))]
    rw [e, ← ih]
    omega
theorem padZ_sval : ∀ (n : Nat) (z : Int), sval (padZ z n) = (z + 64 * 128 ^ n) % (128 * 128 ^ n) - 64 * 128 ^ n
  | 0, z => by
    rw [padZ, sval_one _ (by rw [toNat_ofNat (by omega)]; omega), toNat_ofNat (by omega)]
    simp
    split <;> omega
  | n + 1, z => by
    have ih := padZ_sval n (z / 128)
    cases hp : padZ (z / 128) n with
    | nil => have := padZ_length n (z / 128); rw [hp] at this; simp at this
    | cons c r =>
      rw [hp] at ih
      rw [padZ, hp, sval_cons, ih, toNat_ofNat (by omega)]
      have e : (z + 64 * 128 ^ (n + 1)) % (128 * 128 ^ (n + 1)) = z % 128 + 128 * ((z / 128 + 64 * 128 ^ n) % (128 * 128 ^ n)) := by
        have e1 : (128 : Int) ^ (n + 1) = 128 * 128 ^ n := by rw [Int.pow_succ, Int.mul_comm]
        rw [e1, emod128 _ _ (by have : (0 : Int) < 128 ^ n := Int.pow_pos (by decide); omega)]
        have e2 : z + 64 * (128 * 128 ^ n) = z + 128 * (64 * 128 ^ n) := by omega
        rw [e2, Int.add_mul_emod_self_left, Int.add_mul_ediv_left _ _ (by decide)]
      rw [e]
      have e1 : (128 : Int) ^ (n + 1) = 128 * 128 ^ n := by rw [Int.pow_succ, Int.mul_comm]
      rw [e1]
      omega

/-- what was put is so many digits, the fewest. -/
theorem putU_pad (v : Nat) : ∃ n, putU v = padZ v n ∧ v < 128 ^ (n + 1) ∧ ∀ m, m < n → 128 ^ (m + 1) ≤ v := by
  induction v using Nat.strongRecOn with
  | _ v ih =>
    by_cases h : v < 128
    · refine ⟨0, ?_, by simpa using h, fun m hm => absurd hm (by omega)⟩
      rw [putU_small h, padZ]; congr 2; omega
    · obtain ⟨n, h1, h2, h3⟩ := ih (v / 128) (by omega)
      refine ⟨n + 1, ?_, ?_, fun m hm => ?_⟩
      · rw [putU_big h, padZ, h1]
        congr 1
      · rw [Nat.pow_succ]; omega
      · rcases m with _ | m
        · omega
        · have := h3 m (by omega)
          rw [Nat.pow_succ]; omega
theorem putS_pad (k : Nat) : ∀ z : Int, z.natAbs ≤ k → ∃ n, putS z = padZ z n ∧ -(64 * 128 ^ n) ≤ z ∧ z < 64 * 128 ^ n ∧ ∀ m, m < n → ¬ (-(64 * 128 ^ m) ≤ z ∧ z < 64 * 128 ^ m) := by
  induction k using Nat.strongRecOn with
  | _ k ih =>
    intro z hz
    by_cases h : -64 ≤ z ∧ z < 64
    · exact ⟨0, by rw [putS_small h, padZ], by omega, by omega, fun m hm => absurd hm (by omega)⟩
    · obtain ⟨n, h1, h2, h3, h4⟩ := ih (z / 128).natAbs (by omega) (z / 128) (Nat.le_refl _)
      refine ⟨n + 1, by rw [putS_big h, padZ, h1], ?_, ?_, fun m hm => ?_⟩
      · rw [Int.pow_succ]; omega
      · rw [Int.pow_succ]; omega
      · rcases m with _ | m
        · omega
        · have := h4 m (by omega)
          rw [Int.pow_succ]; omega

/-- what so many digits are read as, without a sign. -/
theorem padU_read (v n : Nat) (hv : v < 18446744073709551616) (hn : n ≤ 9) : uOf (padZ v n) 0 64 = some (v % 128 ^ (n + 1), n + 1) := by
  have h := uOf_enc (padZ_enc n v) [] 64 (by decide) (by decide)
  have hj := padZ_join n v
  have hjN : joinOf (padZ v n) = v % 128 ^ (n + 1) := by
    have e : ((v : Int) % 128 ^ (n + 1)) = ((v % 128 ^ (n + 1) : Nat) : Int) := by simp
    rw [e] at hj
    exact Int.ofNat.inj hj
  rw [List.append_nil, padZ_length, hjN, if_pos ⟨by omega, Nat.lt_of_le_of_lt (Nat.mod_le _ _) (by omega)⟩] at h
  exact h
/-- .. and with one. -/
theorem padS_read (z : Int) (n : Nat) (h1 : -9223372036854775808 ≤ z) (h2 : z < 9223372036854775808) (hn : n ≤ 9) :
    ∃ s, sOf (padZ z n) 0 64 = some (s, n + 1) ∧ -9223372036854775808 ≤ s ∧ s < 9223372036854775808 ∧ (-(64 * 128 ^ n) ≤ s ∧ s < 64 * 128 ^ n) ∧ (-(64 * 128 ^ n) ≤ z ∧ z < 64 * 128 ^ n → s = z) := by
  have hs := padZ_sval n z
  have hp : (0 : Int) < 128 ^ n := Int.pow_pos (by decide)
  have hb : -(64 * 128 ^ n) ≤ sval (padZ z n) ∧ sval (padZ z n) < 64 * 128 ^ n := by
    rw [hs]
    have := Int.emod_nonneg (z + 64 * 128 ^ n) (show (128 * 128 ^ n : Int) ≠ 0 by omega)
    have := Int.emod_lt_of_pos (z + 64 * 128 ^ n) (show (0 : Int) < 128 * 128 ^ n by omega)
    omega
  have hz : -(64 * 128 ^ n) ≤ z ∧ z < 64 * 128 ^ n → sval (padZ z n) = z := fun hh => by
    rw [hs, Int.emod_eq_of_lt (by omega) (by omega)]; omega
  have hr : -9223372036854775808 ≤ sval (padZ z n) ∧ sval (padZ z n) < 9223372036854775808 := by
    rcases Nat.lt_or_ge n 9 with h9 | h9
    · have hpw : (128 : Int) ^ n ≤ 128 ^ 8 := by
        have : (128 : Nat) ^ n ≤ 128 ^ 8 := Nat.pow_le_pow_right (by omega) (by omega)
        exact_mod_cast this
      have h8 : (128 : Int) ^ 8 = 72057594037927936 := by decide
      omega
    · have : n = 9 := by omega
      subst this
      have h9 : (128 : Int) ^ 9 = 9223372036854775808 := by decide
      rw [hz (by omega)]
      exact ⟨h1, h2⟩
  have h := sOf_enc64 (padZ_enc n z) [] hr.1 hr.2 (by rw [padZ_length]; omega)
  rw [List.append_nil, padZ_length] at h
  exact ⟨_, h, hr.1, hr.2, hb, hz⟩

end Go.Proofs.Ytdmgmlhcpkampaa.Leb
