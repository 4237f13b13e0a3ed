/- Plain mathematics of layer 3: shifting, turning, bits. -/
import Derived.Test.YtdenmbigdklhkaaDoorNumMath
import Derived.Laws.Bits64b
namespace Go.Proofs.YtdenmbigdklhkaaDoor.Num

/-- what has no bit in common: or is plus. -/
theorem or_add (x y k : Nat) (hx : x < 2 ^ k) : (y * 2 ^ k) ||| x = y * 2 ^ k + x := by
  rw [Nat.mul_comm]
  exact (Nat.two_pow_add_eq_or_of_lt hx y).symm

theorem up_mod (N k x : Nat) (hk : k ≤ N) : x * 2 ^ k % 2 ^ N = x % 2 ^ (N - k) * 2 ^ k := by
  have e : 2 ^ N = 2 ^ (N - k) * 2 ^ k := by rw [← Nat.pow_add]; congr 1; omega
  rw [e, Nat.mul_mod_mul_right]

theorem down_lt (N k x : Nat) (hk : k ≤ N) (hx : x < 2 ^ N) : x / 2 ^ (N - k) < 2 ^ k := by
  have e : 2 ^ N = 2 ^ k * 2 ^ (N - k) := by rw [← Nat.pow_add]; congr 1; omega
  rw [e] at hx
  exact Nat.div_lt_of_lt_mul (by rw [Nat.mul_comm]; exact hx)

def rotN (N x k : Nat) : Nat := x * 2 ^ k % 2 ^ N + x / 2 ^ (N - k)

theorem rotN_lt (N k x : Nat) (hk : k ≤ N) (hx : x < 2 ^ N) : rotN N x k < 2 ^ N := by
  have h1 := down_lt N k x hk hx
  have e : 2 ^ N = 2 ^ (N - k) * 2 ^ k := by rw [← Nat.pow_add]; congr 1; omega
  unfold rotN
  rw [up_mod N k x hk]
  have h2 : x % 2 ^ (N - k) + 1 ≤ 2 ^ (N - k) := Nat.mod_lt _ (Nat.two_pow_pos _)
  have h3 := Nat.mul_le_mul_right (2 ^ k) h2
  rw [Nat.add_mul, Nat.one_mul] at h3
  omega

theorem rot_cast (N k x : Nat) : rot N x k = ((rotN N x k : Nat) : Int) := by
  unfold rot rotN
  simp

theorem rot64 (k x : Nat) (hk : k ≤ 64) (hx : x < 2 ^ 64) : (x * 2 ^ k % 2 ^ 64) ||| (x / 2 ^ (64 - k)) = rotN 64 x k := by
  unfold rotN
  rw [up_mod 64 k x hk]
  exact or_add _ _ _ (down_lt 64 k x hk hx)

theorem rot32 (k x : Nat) (hk : k ≤ 32) (hx : x < 2 ^ 32) : ((x * 2 ^ k % 2 ^ 64) ||| (x / 2 ^ (32 - k))) % 2 ^ 32 = rotN 32 x k := by
  have h1 : x * 2 ^ k < 2 ^ 64 := by
    have h2 : 2 ^ k ≤ 2 ^ 32 := Nat.pow_le_pow_right (by decide) hk
    have h3 : x * 2 ^ k ≤ x * 2 ^ 32 := Nat.mul_le_mul_left _ h2
    omega
  rw [Nat.mod_eq_of_lt h1, or_add _ _ _ (down_lt 32 k x hk hx)]
  have h4 := rotN_lt 32 k x hk hx
  unfold rotN at h4 ⊢
  rw [Nat.add_mod, Nat.mod_eq_of_lt (Nat.lt_of_le_of_lt (Nat.le_add_left _ _) h4), Nat.mod_eq_of_lt h4]

theorem turn64 (a : Int) (k : Nat) (h0 : 0 ≤ a) (h1 : a < 18446744073709551616) (hk : k ≤ 64) : bits .or .u64 (IntKind.u64.wrap (a * 2 ^ k)) (a / 2 ^ (64 - k)) = rot 64 a k := by
  obtain ⟨x, rfl⟩ := Int.eq_ofNat_of_zero_le h0
  have e1 : IntKind.u64.wrap ((x : Int) * 2 ^ k) = ((x * 2 ^ k % 2 ^ 64 : Nat) : Int) := by rw [IntKind.wrap_u64]; simp
  have e2 : (x : Int) / 2 ^ (64 - k) = ((x / 2 ^ (64 - k) : Nat) : Int) := by simp
  have hx : x < 2 ^ 64 := by omega
  have l2 : x / 2 ^ (64 - k) ≤ x := Nat.div_le_self _ _
  rw [e1, e2, bits_or_u64_nat _ _ (Nat.mod_lt _ (by decide)) (by omega), rot64 k x hk hx, rot_cast]

theorem turn32 (a : Int) (k : Nat) (h0 : 0 ≤ a) (h1 : a < 4294967296) (hk : k ≤ 32) : bits .or .u64 (IntKind.u64.wrap (a * 2 ^ k)) (a / 2 ^ (32 - k)) % 4294967296 = rot 32 a k := by
  obtain ⟨x, rfl⟩ := Int.eq_ofNat_of_zero_le h0
  have e1 : IntKind.u64.wrap ((x : Int) * 2 ^ k) = ((x * 2 ^ k % 2 ^ 64 : Nat) : Int) := by rw [IntKind.wrap_u64]; simp
  have e2 : (x : Int) / 2 ^ (32 - k) = ((x / 2 ^ (32 - k) : Nat) : Int) := by simp
  have hx : x < 2 ^ 32 := by omega
  have l2 : x / 2 ^ (32 - k) ≤ x := Nat.div_le_self _ _
  rw [e1, e2, bits_or_u64_nat _ _ (Nat.mod_lt _ (by decide)) (by omega), rot_cast, ← rot32 k x hk hx]
  simp

end Go.Proofs.YtdenmbigdklhkaaDoor.Num
