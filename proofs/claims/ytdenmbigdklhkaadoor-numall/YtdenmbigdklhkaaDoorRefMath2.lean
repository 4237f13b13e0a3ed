/- Plain mathematics of layer 3: the bits of what is shifted and turned. -/
import Derived.Test.YtdenmbigdklhkaaDoorRefMath
namespace Go.Proofs.YtdenmbigdklhkaaDoor.Num
open Go.RowKit

theorem bitT (r j : Nat) : r / 2 ^ j % 2 = (r.testBit j).toNat := (Nat.toNat_testBit r j).symm

theorem f0 (N k x j : Nat) (hj : j < N) : (x * 2 ^ k % 2 ^ N) / 2 ^ j % 2 = if k ≤ j then x / 2 ^ (j - k) % 2 else 0 := by
  rw [bitT, Nat.testBit_mod_two_pow, Nat.testBit_mul_two_pow]
  by_cases h : k ≤ j
  · rw [if_pos h, bitT]; simp [hj, h]
  · rw [if_neg h]; simp [h]

theorem f2 (k x j : Nat) : (x / 2 ^ k) / 2 ^ j % 2 = x / 2 ^ (j + k) % 2 := by
  rw [Nat.div_div_eq_div_mul, ← Nat.pow_add, Nat.add_comm]
theorem f2z (N k x j : Nat) (hx : x < 2 ^ N) (h : N ≤ j + k) : (x / 2 ^ k) / 2 ^ j % 2 = 0 := by
  rw [f2, Nat.div_eq_of_lt (Nat.lt_of_lt_of_le hx (Nat.pow_le_pow_right (by decide) h))]

theorem split_bit (p y z j : Nat) (hz : z < 2 ^ p) : (y * 2 ^ p + z) / 2 ^ j % 2 = if j < p then z / 2 ^ j % 2 else y / 2 ^ (j - p) % 2 := by
  rw [bitT, Nat.mul_comm, Nat.testBit_two_pow_mul_add _ hz]
  split <;> rw [bitT]

theorem f3 (N k x j : Nat) (hk : k ≤ N) (hx : x < 2 ^ N) (hj : j < N) : rotN N x k / 2 ^ j % 2 = if j < k then x / 2 ^ (N - k + j) % 2 else x / 2 ^ (j - k) % 2 := by
  unfold rotN
  rw [up_mod N k x hk, split_bit k _ _ j (down_lt N k x hk hx)]
  split
  · rw [f2, Nat.add_comm]
  · rw [bitT, bitT, Nat.testBit_mod_two_pow]
    simp [show j - k < N - k by omega]

theorem f1 (N k x j : Nat) (hk : k < N) (hx : x < 2 ^ N) (hj : j < N) : (x / 2 ^ k + (2 ^ N - 2 ^ (N - k))) / 2 ^ j % 2 = if j + k < N then x / 2 ^ (j + k) % 2 else 1 := by
  have e : 2 ^ N - 2 ^ (N - k) = (2 ^ k - 1) * 2 ^ (N - k) := by
    rw [Nat.sub_mul, ← Nat.pow_add, Nat.one_mul]
    congr 2
    omega
  have hl : x / 2 ^ k < 2 ^ (N - k) := by
    have := down_lt N (N - k) x (by omega) hx
    rwa [show N - (N - k) = k by omega] at this
  rw [e, Nat.add_comm, split_bit (N - k) _ _ j hl]
  by_cases h : j + k < N
  · rw [if_pos h, if_pos (by omega), f2]
  · rw [if_neg h, if_neg (by omega), bitT, Nat.testBit_two_pow_sub_one]
    simp [show j - (N - k) < k by omega]

/-- a number with a sign, shifted down. -/
theorem down_neg (N k x : Nat) (hk : k < N) (hx : x < 2 ^ N) : ((x : Int) - 2 ^ N) / 2 ^ k % 2 ^ N = ((x / 2 ^ k + (2 ^ N - 2 ^ (N - k)) : Nat) : Int) := by
  have hp : (0 : Int) < 2 ^ k := Int.pow_pos (by decide)
  have e1 : (2 : Int) ^ N = 2 ^ (N - k) * 2 ^ k := by rw [← Int.pow_add]; congr 1; omega
  have e2 : ((x : Int) - 2 ^ N) / 2 ^ k = (x : Int) / 2 ^ k - 2 ^ (N - k) := by
    rw [e1, Int.sub_eq_add_neg, ← Int.neg_mul, Int.add_mul_ediv_right _ _ (by omega), Int.sub_eq_add_neg]
  have hl : x / 2 ^ k < 2 ^ (N - k) := by
    have := down_lt N (N - k) x (by omega) hx
    rwa [show N - (N - k) = k by omega] at this
  have hle : 2 ^ (N - k) ≤ 2 ^ N := Nat.pow_le_pow_right (by decide) (by omega)
  have c1 : (x : Int) / 2 ^ k = ((x / 2 ^ k : Nat) : Int) := by simp
  have c2 : (2 : Int) ^ (N - k) = ((2 ^ (N - k) : Nat) : Int) := by simp
  have c3 : (2 : Int) ^ N = ((2 ^ N : Nat) : Int) := by simp
  rw [e2, c1, c2, c3]
  generalize x / 2 ^ k = q at *
  generalize 2 ^ (N - k) = p at *
  generalize 2 ^ N = m at *
  rw [show ((q : Int) - (p : Int)) = ((q + (m - p) : Nat) : Int) - (m : Int) by omega, Int.sub_emod_right, Int.emod_eq_of_lt (by omega) (by omega)]

/-- the bits of each way of shifting, over whole numbers: 0: up. -/
theorem s0 (N k : Nat) (a : Int) (h0 : 0 ≤ a) (j : Nat) (hj : j < N) : (a * 2 ^ k % 2 ^ N) / 2 ^ j % 2 = if k ≤ j then a / 2 ^ (j - k) % 2 else 0 := by
  obtain ⟨x, rfl⟩ := Int.eq_ofNat_of_zero_le h0
  have h := f0 N k x j hj
  have c : ((x : Int) * 2 ^ k % 2 ^ N) / 2 ^ j % 2 = (((x * 2 ^ k % 2 ^ N) / 2 ^ j % 2 : Nat) : Int) := by simp
  rw [c, h]
  split <;> simp
theorem s2 (N k : Nat) (a : Int) (h0 : 0 ≤ a) (h1 : a < 2 ^ N) (j : Nat) : (a / 2 ^ k) / 2 ^ j % 2 = if j + k < N then a / 2 ^ (j + k) % 2 else 0 := by
  obtain ⟨x, rfl⟩ := Int.eq_ofNat_of_zero_le h0
  have c3 : (2 : Int) ^ N = ((2 ^ N : Nat) : Int) := by simp
  have hx : x < 2 ^ N := by omega
  have c : ((x : Int) / 2 ^ k) / 2 ^ j % 2 = (((x / 2 ^ k) / 2 ^ j % 2 : Nat) : Int) := by simp
  rw [c]
  split
  · rw [f2]; simp
  · rw [f2z N k x j hx (by omega)]; rfl
theorem s3 (N k : Nat) (a : Int) (h0 : 0 ≤ a) (h1 : a < 2 ^ N) (hk : k ≤ N) (j : Nat) (hj : j < N) : rot N a k / 2 ^ j % 2 = if j < k then a / 2 ^ (N - k + j) % 2 else a / 2 ^ (j - k) % 2 := by
  obtain ⟨x, rfl⟩ := Int.eq_ofNat_of_zero_le h0
  have c3 : (2 : Int) ^ N = ((2 ^ N : Nat) : Int) := by simp
  have hx : x < 2 ^ N := by omega
  have h := f3 N k x j hk hx hj
  have c : ((rotN N x k : Nat) : Int) / 2 ^ j % 2 = ((rotN N x k / 2 ^ j % 2 : Nat) : Int) := by simp
  rw [rot_cast, c, h]
  split <;> simp
theorem s1n (N k : Nat) (a : Int) (h0 : 0 ≤ a) (h1 : a < 2 ^ N) (hk : k < N) (j : Nat) (hj : j < N) : ((a - 2 ^ N) / 2 ^ k % 2 ^ N) / 2 ^ j % 2 = if j + k < N then a / 2 ^ (j + k) % 2 else 1 := by
  obtain ⟨x, rfl⟩ := Int.eq_ofNat_of_zero_le h0
  have c3 : (2 : Int) ^ N = ((2 ^ N : Nat) : Int) := by simp
  have hx : x < 2 ^ N := by omega
  have h := f1 N k x j hk hx hj
  rw [down_neg N k x hk hx]
  have c : (((x / 2 ^ k + (2 ^ N - 2 ^ (N - k)) : Nat) : Int)) / 2 ^ j % 2 = (((x / 2 ^ k + (2 ^ N - 2 ^ (N - k))) / 2 ^ j % 2 : Nat) : Int) := by
    rw [Int.natCast_emod, Int.natCast_ediv]
    simp
  rw [c, h]
  split <;> simp

end Go.Proofs.YtdenmbigdklhkaaDoor.Num
