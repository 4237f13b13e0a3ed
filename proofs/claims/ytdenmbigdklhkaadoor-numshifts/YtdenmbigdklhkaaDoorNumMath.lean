/- Plain mathematics of layer 3: what each operation makes of its arguments, of n bits (32 or 64). No condition; nothing of the program. -/
import Derived.Laws.BitsAllLaws
import Derived.RowKit
import Derived.Lib.TrailingZeros
import Derived.Lib.BitFns
namespace Go.Proofs.YtdenmbigdklhkaaDoor.Num

/-- a value, with a sign. -/
def sg (n : Nat) (a : Int) : Int := if a < 2 ^ (n - 1) then a else a - 2 ^ n

theorem sg32 (a : Int) : sg 32 a = if a < 2147483648 then a else a - 4294967296 := by simp [sg]
theorem sg64 (a : Int) : sg 64 a = if a < 9223372036854775808 then a else a - 18446744073709551616 := by simp [sg]

/-- the i-th comparison. -/
def cmpV (i n : Nat) (a b : Int) : Bool :=
  if i = 0 then decide (a = b) else if i = 1 then decide (a ≠ b)
  else if i = 2 then decide (sg n a < sg n b) else if i = 3 then decide (a < b)
  else if i = 4 then decide (sg n b < sg n a) else if i = 5 then decide (b < a)
  else if i = 6 then decide (sg n a ≤ sg n b) else if i = 7 then decide (a ≤ b)
  else if i = 8 then decide (sg n b ≤ sg n a) else decide (b ≤ a)

/-- how many of the lowest n bits are 1. -/
def ones : Nat → Nat → Nat
  | 0, _ => 0
  | n + 1, a => ones n a + a / 2 ^ n % 2

/-- the i-th way of counting bits. -/
def cntV (i n : Nat) (a : Int) : Int :=
  if i = 0 then n - (Lib.bitLen a.toNat : Int) else if i = 1 then min (Lib.ctz 64 a.toNat : Int) n else (ones n a.toNat : Int)

/-- quotients and rests, and the trap. -/
def divV (i n : Nat) (a b : Int) : Int × Int :=
  if b = 0 then (0, 2)
  else if i = 0 then (if a = 2 ^ (n - 1) ∧ b = 2 ^ n - 1 then (0, 3) else ((sg n a).tdiv (sg n b) % 2 ^ n, 0))
  else if i = 1 then (a / b, 0)
  else if i = 2 then ((sg n a).tmod (sg n b) % 2 ^ n, 0)
  else (a % b, 0)

/-- turned up by k. -/
def rot (n : Nat) (a : Int) (k : Nat) : Int := a * 2 ^ k % 2 ^ n + a / 2 ^ (n - k)

/-- shifted, and turned, by k. -/
def shfV (i n : Nat) (a : Int) (k : Nat) : Int :=
  if i = 0 then a * 2 ^ k % 2 ^ n else if i = 1 then sg n a / 2 ^ k % 2 ^ n else if i = 2 then a / 2 ^ k
  else if i = 3 then rot n a k else rot n a (n - k)

/-- plus, minus, times, and, or, xor. -/
def cmbV (i n : Nat) (a b : Int) : Int :=
  if i = 0 then (a + b) % 2 ^ n else if i = 1 then (a - b) % 2 ^ n else if i = 2 then a * b % 2 ^ n
  else if i = 7 then ((a.toNat &&& b.toNat : Nat) : Int) else if i = 8 then ((a.toNat ||| b.toNat : Nat) : Int) else ((a.toNat ^^^ b.toNat : Nat) : Int)

/-- the i-th of the great row. -/
def twoV (i n : Nat) (a b : Int) : Int × Int :=
  if 3 ≤ i ∧ i ≤ 6 then divV (i - 3) n a b
  else if 10 ≤ i then (shfV (i - 10) n a (b % n).toNat, 0)
  else (cmbV i n a b, 0)

def tr (b : Bool) : Int := if b then 1 else 0

end Go.Proofs.YtdenmbigdklhkaaDoor.Num
