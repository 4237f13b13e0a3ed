/- Plain mathematics of layer 3: quotients and rests make the number; turned up and down it is as it was. -/
import Derived.Test.YtdenmbigdklhkaaDoorNumH
import Derived.Test.YtdenmbigdklhkaaDoorNumMath2
namespace Go.Proofs.YtdenmbigdklhkaaDoor
open Go.RowKit

theorem rot_back (N k x : Nat) (hk : k ≤ N) (hx : x < 2 ^ N) : Num.rotN N (Num.rotN N x k) (N - k) = x := by
  have h1 := Num.down_lt N k x hk hx
  have e1 : Num.rotN N x k = x % 2 ^ (N - k) * 2 ^ k + x / 2 ^ (N - k) := by unfold Num.rotN; rw [Num.up_mod N k x hk]
  rw [e1]
  unfold Num.rotN
  rw [Num.up_mod N (N - k) _ (Nat.sub_le _ _), show N - (N - k) = k by omega]
  rw [Nat.mul_comm (x % 2 ^ (N - k)) (2 ^ k), Nat.mul_add_mod, Nat.mod_eq_of_lt h1, Nat.mul_add_div (Nat.two_pow_pos k), Nat.div_eq_of_lt h1, Nat.add_zero, Nat.mul_comm]
  exact Nat.div_add_mod x _

theorem rot_back_i (N k : Nat) (a : Int) (hk : k ≤ N) (h0 : 0 ≤ a) (h1 : a < 2 ^ N) : Num.rot N (Num.rot N a k) (N - k) = a ∧ 0 ≤ Num.rot N a k ∧ Num.rot N a k < 2 ^ N := by
  obtain ⟨x, rfl⟩ := Int.eq_ofNat_of_zero_le h0
  have hx : x < 2 ^ N := by
    have : ((2 ^ N : Nat) : Int) = 2 ^ N := by simp
    omega
  rw [Num.rot_cast, Num.rot_cast, rot_back N k x hk hx]
  have h2 := Num.rotN_lt N k x hk hx
  have h3 : ((Num.rotN N x k : Nat) : Int) < ((2 ^ N : Nat) : Int) := Int.ofNat_lt.2 h2
  exact ⟨rfl, Int.natCast_nonneg _, by simpa using h3⟩

theorem back_core32 (X Y a b sa sb : Int) (h : sb * X + Y = sa) (hsb : sb = b ∨ sb = b - 4294967296) (hsa : sa = a ∨ sa = a - 4294967296) (h0 : 0 ≤ a) (h1 : a < 4294967296) : (X % 4294967296 * b % 4294967296 + Y % 4294967296) % 4294967296 = a := by
  have hX : X = 4294967296 * (X / 4294967296) + X % 4294967296 := (Int.mul_ediv_add_emod X 4294967296).symm
  have hP : X * b = 4294967296 * (X / 4294967296 * b) + X % 4294967296 * b := by
    have := congrArg (· * b) hX
    simp only [Int.add_mul, Int.mul_assoc] at this
    exact this
  have hsx : sb * X = X * b ∨ sb * X = X * b - 4294967296 * X := by
    rcases hsb with rfl | rfl
    · left; exact Int.mul_comm _ _
    · right; rw [Int.sub_mul, Int.mul_comm b X]
  generalize X % 4294967296 * b = p at *
  generalize X / 4294967296 * b = q at *
  generalize X * b = r at *
  generalize sb * X = t at *
  omega

theorem back_s32 (a b : Int) (ha : 0 ≤ a ∧ a < 4294967296) (hb : 0 ≤ b ∧ b < 4294967296) (hz : b ≠ 0) (hov : ¬ (a = 2147483648 ∧ b = 4294967296 - 1)) :
    ∃ q r p, Num.ev2 (106 + 3) a b = (q, 0) ∧ Num.ev2 (106 + 5) a b = (r, 0) ∧ (0 ≤ q ∧ q < 4294967296) ∧ (0 ≤ r ∧ r < 4294967296) ∧ Num.ev2 (106 + 2) q b = (p, 0) ∧ (0 ≤ p ∧ p < 4294967296) ∧ Num.ev2 106 p r = (a, 0) := by
  refine ⟨(Num.sg 32 a).tdiv (Num.sg 32 b) % 4294967296, (Num.sg 32 a).tmod (Num.sg 32 b) % 4294967296, (Num.sg 32 a).tdiv (Num.sg 32 b) % 4294967296 * b % 4294967296, ?_, ?_, by omega, by omega, rfl, by omega, ?_⟩
  · show Num.divV 0 32 a b = _
    unfold Num.divV
    rw [if_neg hz, if_pos rfl, if_neg (show ¬ (a = 2 ^ (32 - 1) ∧ b = 2 ^ 32 - 1) from hov)]
    rfl
  · show Num.divV 2 32 a b = _
    unfold Num.divV
    rw [if_neg hz, if_neg (by decide), if_neg (by decide), if_pos rfl]
    rfl
  · show (((Num.sg 32 a).tdiv (Num.sg 32 b) % 4294967296 * b % 4294967296 + (Num.sg 32 a).tmod (Num.sg 32 b) % 4294967296) % 4294967296, (0 : Int)) = (a, 0)
    rw [back_core32 _ _ a b (Num.sg 32 a) (Num.sg 32 b) (Int.mul_tdiv_add_tmod _ _) (by rw [Num.sg32]; split <;> simp) (by rw [Num.sg32]; split <;> simp) ha.1 ha.2]

theorem back_u32 (a b : Int) (ha : 0 ≤ a ∧ a < 4294967296) (hb : 0 ≤ b ∧ b < 4294967296) (hz : b ≠ 0) :
    ∃ q r p, Num.ev2 (106 + 4) a b = (q, 0) ∧ Num.ev2 (106 + 6) a b = (r, 0) ∧ (0 ≤ q ∧ q < 4294967296) ∧ (0 ≤ r ∧ r < 4294967296) ∧ Num.ev2 (106 + 2) q b = (p, 0) ∧ (0 ≤ p ∧ p < 4294967296) ∧ Num.ev2 106 p r = (a, 0) := by
  have hb0 : 0 < b := by omega
  have q0 : 0 ≤ a / b := Int.ediv_nonneg ha.1 hb.1
  have q1 : a / b ≤ a := Int.ediv_le_self _ ha.1
  have r0 : 0 ≤ a % b := Int.emod_nonneg _ hz
  have r1 : a % b < b := Int.emod_lt_of_pos _ hb0
  have e := Int.mul_ediv_add_emod a b
  rw [Int.mul_comm] at e
  have p0 : 0 ≤ a / b * b := Int.mul_nonneg q0 hb.1
  have em : a / b * b % 4294967296 = a / b * b := Int.emod_eq_of_lt p0 (by omega)
  refine ⟨a / b, a % b, a / b * b, ?_, ?_, by omega, by omega, ?_, by omega, ?_⟩
  · show Num.divV 1 32 a b = _
    unfold Num.divV
    rw [if_neg hz, if_neg (by decide), if_pos rfl]
  · show Num.divV 3 32 a b = _
    unfold Num.divV
    rw [if_neg hz, if_neg (by decide), if_neg (by decide), if_neg (by decide)]
  · show (a / b * b % 4294967296, (0 : Int)) = _
    rw [em]
  · show ((a / b * b + a % b) % 4294967296, (0 : Int)) = _
    rw [e, Int.emod_eq_of_lt ha.1 ha.2]

theorem back_core64 (X Y a b sa sb : Int) (h : sb * X + Y = sa) (hsb : sb = b ∨ sb = b - 18446744073709551616) (hsa : sa = a ∨ sa = a - 18446744073709551616) (h0 : 0 ≤ a) (h1 : a < 18446744073709551616) : (X % 18446744073709551616 * b % 18446744073709551616 + Y % 18446744073709551616) % 18446744073709551616 = a := by
  have hX : X = 18446744073709551616 * (X / 18446744073709551616) + X % 18446744073709551616 := (Int.mul_ediv_add_emod X 18446744073709551616).symm
  have hP : X * b = 18446744073709551616 * (X / 18446744073709551616 * b) + X % 18446744073709551616 * b := by
    have := congrArg (· * b) hX
    simp only [Int.add_mul, Int.mul_assoc] at this
    exact this
  have hsx : sb * X = X * b ∨ sb * X = X * b - 18446744073709551616 * X := by
    rcases hsb with rfl | rfl
    · left; exact Int.mul_comm _ _
    · right; rw [Int.sub_mul, Int.mul_comm b X]
  generalize X % 18446744073709551616 * b = p at *
  generalize X / 18446744073709551616 * b = q at *
  generalize X * b = r at *
  generalize sb * X = t at *
  omega

theorem back_s64 (a b : Int) (ha : 0 ≤ a ∧ a < 18446744073709551616) (hb : 0 ≤ b ∧ b < 18446744073709551616) (hz : b ≠ 0) (hov : ¬ (a = 9223372036854775808 ∧ b = 18446744073709551616 - 1)) :
    ∃ q r p, Num.ev2 (124 + 3) a b = (q, 0) ∧ Num.ev2 (124 + 5) a b = (r, 0) ∧ (0 ≤ q ∧ q < 18446744073709551616) ∧ (0 ≤ r ∧ r < 18446744073709551616) ∧ Num.ev2 (124 + 2) q b = (p, 0) ∧ (0 ≤ p ∧ p < 18446744073709551616) ∧ Num.ev2 124 p r = (a, 0) := by
  refine ⟨(Num.sg 64 a).tdiv (Num.sg 64 b) % 18446744073709551616, (Num.sg 64 a).tmod (Num.sg 64 b) % 18446744073709551616, (Num.sg 64 a).tdiv (Num.sg 64 b) % 18446744073709551616 * b % 18446744073709551616, ?_, ?_, by omega, by omega, rfl, by omega, ?_⟩
  · show Num.divV 0 64 a b = _
    unfold Num.divV
    rw [if_neg hz, if_pos rfl, if_neg (show ¬ (a = 2 ^ (64 - 1) ∧ b = 2 ^ 64 - 1) from hov)]
    rfl
  · show Num.divV 2 64 a b = _
    unfold Num.divV
    rw [if_neg hz, if_neg (by decide), if_neg (by decide), if_pos rfl]
    rfl
  · show (((Num.sg 64 a).tdiv (Num.sg 64 b) % 18446744073709551616 * b % 18446744073709551616 + (Num.sg 64 a).tmod (Num.sg 64 b) % 18446744073709551616) % 18446744073709551616, (0 : Int)) = (a, 0)
    rw [back_core64 _ _ a b (Num.sg 64 a) (Num.sg 64 b) (Int.mul_tdiv_add_tmod _ _) (by rw [Num.sg64]; split <;> simp) (by rw [Num.sg64]; split <;> simp) ha.1 ha.2]

theorem back_u64 (a b : Int) (ha : 0 ≤ a ∧ a < 18446744073709551616) (hb : 0 ≤ b ∧ b < 18446744073709551616) (hz : b ≠ 0) :
    ∃ q r p, Num.ev2 (124 + 4) a b = (q, 0) ∧ Num.ev2 (124 + 6) a b = (r, 0) ∧ (0 ≤ q ∧ q < 18446744073709551616) ∧ (0 ≤ r ∧ r < 18446744073709551616) ∧ Num.ev2 (124 + 2) q b = (p, 0) ∧ (0 ≤ p ∧ p < 18446744073709551616) ∧ Num.ev2 124 p r = (a, 0) := by
  have hb0 : 0 < b := by omega
  have q0 : 0 ≤ a / b := Int.ediv_nonneg ha.1 hb.1
  have q1 : a / b ≤ a := Int.ediv_le_self _ ha.1
  have r0 : 0 ≤ a % b := Int.emod_nonneg _ hz
  have r1 : a % b < b := Int.emod_lt_of_pos _ hb0
  have e := Int.mul_ediv_add_emod a b
  rw [Int.mul_comm] at e
  have p0 : 0 ≤ a / b * b := Int.mul_nonneg q0 hb.1
  have em : a / b * b % 18446744073709551616 = a / b * b := Int.emod_eq_of_lt p0 (by omega)
  refine ⟨a / b, a % b, a / b * b, ?_, ?_, by omega, by omega, ?_, by omega, ?_⟩
  · show Num.divV 1 64 a b = _
    unfold Num.divV
    rw [if_neg hz, if_neg (by decide), if_pos rfl]
  · show Num.divV 3 64 a b = _
    unfold Num.divV
    rw [if_neg hz, if_neg (by decide), if_neg (by decide), if_neg (by decide)]
  · show (a / b * b % 18446744073709551616, (0 : Int)) = _
    rw [em]
  · show ((a / b * b + a % b) % 18446744073709551616, (0 : Int)) = _
    rw [e, Int.emod_eq_of_lt ha.1 ha.2]

end Go.Proofs.YtdenmbigdklhkaaDoor
