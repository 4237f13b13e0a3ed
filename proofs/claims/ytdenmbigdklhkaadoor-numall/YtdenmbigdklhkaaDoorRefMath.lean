/- Plain mathematics of layer 3: bits counted, and put together, one by one. -/
import Derived.Test.YtdenmbigdklhkaaDoorNumMath4
import Derived.Test.YtdenmbigdklhkaaDoorNumMath2
namespace Go.Proofs.YtdenmbigdklhkaaDoor.Num
open Go.RowKit

theorem ctzFrom_of : ∀ (j f x : Nat), j < f → x % 2 ^ j = 0 → x / 2 ^ j % 2 = 1 → Lib.ctzFrom f x = j
  | 0, 0, _, h, _, _ => absurd h (by decide)
  | 0, f + 1, x, _, _, h2 => by
    unfold Lib.ctzFrom
    rw [if_pos (by simpa using h2)]
  | j + 1, 0, _, h, _, _ => absurd h (by omega)
  | j + 1, f + 1, x, h, h1, h2 => by
    have e : (2 : Nat) ^ (j + 1) = 2 * 2 ^ j := by rw [Nat.pow_succ]; omega
    rw [e] at h1 h2
    have h3 : x % 2 = 0 := by
      have := Nat.mod_mul_right_mod x 2 (2 ^ j)
      rw [h1] at this
      omega
    have h4 : x / 2 % 2 ^ j = 0 := by
      have := Nat.mod_mul_right_div_self x 2 (2 ^ j)
      rw [h1] at this
      simpa using this.symm
    rw [← Nat.div_div_eq_div_mul] at h2
    unfold Lib.ctzFrom
    rw [if_neg (by omega), ctzFrom_of j f (x / 2) (by omega) h4 h2]
    omega

theorem ctz_of (j x : Nat) (hj : j < 64) (h1 : x % 2 ^ j = 0) (h2 : x / 2 ^ j % 2 = 1) : Lib.ctz 64 x = j := by
  unfold Lib.ctz
  rw [if_neg (by intro h; subst h; simp at h2), ctzFrom_of j 64 x hj h1 h2]

theorem bitLen_of (m x : Nat) (hm : m < 64) (h1 : x < 2 ^ (m + 1)) (h2 : x / 2 ^ m % 2 = 1) : Lib.bitLen x = m + 1 := by
  have hp : 0 < 2 ^ m := Nat.two_pow_pos m
  have h3 : x / 2 ^ m < 2 := by
    rw [Nat.pow_succ] at h1
    exact Nat.div_lt_of_lt_mul h1
  have h4 : x / 2 ^ m = 1 := by
    generalize x / 2 ^ m = q at h2 h3
    omega
  have h5 : 2 ^ m ≤ x := by
    have := Nat.div_mul_le_self x (2 ^ m)
    rw [h4] at this
    omega
  have h6 : (2 : Nat) ^ (m + 1) ≤ 2 ^ 64 := Nat.pow_le_pow_right (by decide) (by omega)
  rw [Lib.bitLen_shift m x h5 (by omega), h4]
  have : Lib.bitLen 1 = 1 := by decide
  rw [this]

theorem bitLen_zero : Lib.bitLen 0 = 0 := by decide

theorem half (m x : Nat) (h1 : x < 2 ^ (m + 1)) (h2 : x / 2 ^ m % 2 = 0) : x < 2 ^ m := by
  have hp : 0 < 2 ^ m := Nat.two_pow_pos m
  have h3 : x / 2 ^ m < 2 := by
    rw [Nat.pow_succ] at h1
    exact Nat.div_lt_of_lt_mul h1
  have h4 : x / 2 ^ m = 0 := by
    generalize x / 2 ^ m = q at h2 h3
    omega
  rcases Nat.lt_or_ge x (2 ^ m) with h | h
  · exact h
  · have := Nat.div_pos h hp
    omega

theorem mod_next (x j : Nat) : x % 2 ^ (j + 1) = x % 2 ^ j + 2 ^ j * (x / 2 ^ j % 2) := Nat.mod_pow_succ

theorem or_step (r j x : Nat) (hr : r < 2 ^ 64) (hj : j < 64) (hx : x = r / 2 ^ j % 2) : bits .or .u64 ((r % 2 ^ j : Nat) : Int) (IntKind.u64.wrap ((x : Int) * 2 ^ j)) = ((r % 2 ^ (j + 1) : Nat) : Int) := by
  have hp : 2 ^ j < 2 ^ 64 := Nat.pow_lt_pow_right (by decide) hj
  have hx1 : x ≤ 1 := by omega
  have hm : x * 2 ^ j ≤ 2 ^ j := by
    have := Nat.mul_le_mul_right (2 ^ j) hx1
    omega
  have e1 : IntKind.u64.wrap ((x : Int) * 2 ^ j) = ((x * 2 ^ j : Nat) : Int) := by
    rw [IntKind.wrap_u64, show (x : Int) * 2 ^ j = ((x * 2 ^ j : Nat) : Int) by simp]
    omega
  have hl : r % 2 ^ j < 2 ^ j := Nat.mod_lt _ (Nat.two_pow_pos j)
  rw [e1, bits_or_u64_nat _ _ (by omega) (by omega), Nat.or_comm, or_add _ _ _ hl, mod_next, ← hx, Nat.mul_comm]
  congr 1
  omega

/-- the same, over whole numbers. -/
theorem or_step_i (R x : Int) (j : Nat) (h0 : 0 ≤ R) (h1 : R < 18446744073709551616) (hj : j < 64) (hx : x = R / 2 ^ j % 2) : bits .or .u64 (R % 2 ^ j) (IntKind.u64.wrap (x * 2 ^ j)) = R % 2 ^ (j + 1) := by
  obtain ⟨r, rfl⟩ := Int.eq_ofNat_of_zero_le h0
  have e1 : (r : Int) % 2 ^ j = ((r % 2 ^ j : Nat) : Int) := by simp
  have e2 : (r : Int) % 2 ^ (j + 1) = ((r % 2 ^ (j + 1) : Nat) : Int) := by simp
  have e3 : x = ((r / 2 ^ j % 2 : Nat) : Int) := by rw [hx]; simp
  rw [e1, e2, e3]
  exact or_step r j _ (by omega) hj rfl

end Go.Proofs.YtdenmbigdklhkaaDoor.Num
