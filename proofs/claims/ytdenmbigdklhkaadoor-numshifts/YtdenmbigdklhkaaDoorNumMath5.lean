/- Plain mathematics of layer 3: and, or, xor, together. -/
import Derived.Test.YtdenmbigdklhkaaDoorNumMath
namespace Go.Proofs.YtdenmbigdklhkaaDoor.Num

theorem and_or (a b : Nat) : (a &&& b) + (a ||| b) = a + b := by
  induction a using Nat.strongRecOn generalizing b with
  | _ a ih =>
    by_cases h : a = 0
    · subst h; simp
    · have hi := ih (a / 2) (by omega) (b / 2)
      have a1 : (a &&& b) % 2 ^ 1 = (a % 2 ^ 1) &&& (b % 2 ^ 1) := Nat.and_mod_two_pow
      have a2 : (a &&& b) / 2 ^ 1 = (a / 2 ^ 1) &&& (b / 2 ^ 1) := Nat.and_div_two_pow
      have o1 : (a ||| b) % 2 ^ 1 = (a % 2 ^ 1) ||| (b % 2 ^ 1) := Nat.or_mod_two_pow
      have o2 : (a ||| b) / 2 ^ 1 = (a / 2 ^ 1) ||| (b / 2 ^ 1) := Nat.or_div_two_pow
      have c : ∀ r s : Fin 2, (r.val &&& s.val) + (r.val ||| s.val) = r.val + s.val := by decide
      have hc := c ⟨a % 2, Nat.mod_lt _ (by decide)⟩ ⟨b % 2, Nat.mod_lt _ (by decide)⟩
      simp only [Nat.pow_one] at a1 a2 o1 o2 hc
      omega
theorem or_xor (a b : Nat) : (a &&& b) + (a ^^^ b) = (a ||| b) := by
  induction a using Nat.strongRecOn generalizing b with
  | _ a ih =>
    by_cases h : a = 0
    · subst h; simp
    · have hi := ih (a / 2) (by omega) (b / 2)
      have a1 : (a &&& b) % 2 ^ 1 = (a % 2 ^ 1) &&& (b % 2 ^ 1) := Nat.and_mod_two_pow
      have a2 : (a &&& b) / 2 ^ 1 = (a / 2 ^ 1) &&& (b / 2 ^ 1) := Nat.and_div_two_pow
      have o1 : (a ||| b) % 2 ^ 1 = (a % 2 ^ 1) ||| (b % 2 ^ 1) := Nat.or_mod_two_pow
      have o2 : (a ||| b) / 2 ^ 1 = (a / 2 ^ 1) ||| (b / 2 ^ 1) := Nat.or_div_two_pow
      have x1 : (a ^^^ b) % 2 ^ 1 = (a % 2 ^ 1) ^^^ (b % 2 ^ 1) := Nat.xor_mod_two_pow
      have x2 : (a ^^^ b) / 2 ^ 1 = (a / 2 ^ 1) ^^^ (b / 2 ^ 1) := Nat.xor_div_two_pow
      have c : ∀ r s : Fin 2, (r.val &&& s.val) + (r.val ^^^ s.val) = (r.val ||| s.val) := by decide
      have hc := c ⟨a % 2, Nat.mod_lt _ (by decide)⟩ ⟨b % 2, Nat.mod_lt _ (by decide)⟩
      simp only [Nat.pow_one] at a1 a2 o1 o2 x1 x2 hc
      omega

end Go.Proofs.YtdenmbigdklhkaaDoor.Num
