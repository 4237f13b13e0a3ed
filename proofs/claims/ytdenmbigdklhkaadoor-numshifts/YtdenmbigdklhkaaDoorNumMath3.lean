/- Plain mathematics of layer 3: what is cut off. -/
import Derived.Test.YtdenmbigdklhkaaDoorNumMath
namespace Go.Proofs.YtdenmbigdklhkaaDoor.Num

theorem cmb_range (i : Nat) (a b : Int) (ha : 0 ≤ a ∧ a < 18446744073709551616) (hb : 0 ≤ b ∧ b < 18446744073709551616) : 0 ≤ cmbV i 64 a b ∧ cmbV i 64 a b < 18446744073709551616 := by
  have h1 : a.toNat &&& b.toNat < 2 ^ 64 := Nat.and_lt_two_pow _ (by omega)
  have h2 : a.toNat ||| b.toNat < 2 ^ 64 := Nat.or_lt_two_pow (by omega) (by omega)
  have h3 : a.toNat ^^^ b.toNat < 2 ^ 64 := Nat.xor_lt_two_pow (by omega) (by omega)
  unfold cmbV
  repeat' split
  all_goals omega

theorem cmb_cut64 (i : Nat) (a b : Int) (_ : i < 3 ∨ (7 ≤ i ∧ i < 10)) (_ : 0 ≤ a ∧ a < 18446744073709551616) (_ : 0 ≤ b ∧ b < 18446744073709551616) : cmbV i 64 a b = cmbV i 64 a b := rfl

theorem cmb_cut32 (i : Nat) (a b : Int) (hi : i < 3 ∨ (7 ≤ i ∧ i < 10)) (ha : 0 ≤ a ∧ a < 4294967296) (hb : 0 ≤ b ∧ b < 4294967296) : cmbV i 64 a b % 4294967296 = cmbV i 32 a b := by
  have h1 : a.toNat &&& b.toNat < 2 ^ 32 := Nat.and_lt_two_pow _ (by omega)
  have h2 : a.toNat ||| b.toNat < 2 ^ 32 := Nat.or_lt_two_pow (by omega) (by omega)
  have h3 : a.toNat ^^^ b.toNat < 2 ^ 32 := Nat.xor_lt_two_pow (by omega) (by omega)
  have hm : a * b % 2 ^ 64 % 4294967296 = a * b % 2 ^ 32 := by
    generalize a * b = c
    omega
  unfold cmbV
  repeat' split
  all_goals first | omega | exact hm

end Go.Proofs.YtdenmbigdklhkaaDoor.Num
