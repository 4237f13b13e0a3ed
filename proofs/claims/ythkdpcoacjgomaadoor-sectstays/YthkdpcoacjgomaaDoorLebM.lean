/- The plain mathematics of layer 1: LEB128 as lists of bytes and natural numbers. No condition; nothing of the program. -/
import Derived.Laws.BitsAllLaws
import Derived.RowKit
import Derived.Test.YthkdpcoacjgomaaDoorMem
set_option linter.unusedVariables false
set_option linter.unusedSimpArgs false
namespace Go.Proofs.YthkdpcoacjgomaaDoor.Leb

/-- how many bytes the number has that begins here, of at most m. -/
def lenOf : List UInt8 → Nat → Option Nat
  | [], _ => none
  | _ :: _, 0 => none
  | b :: r, m + 1 => if b.toNat < 128 then some 1 else (lenOf r m).map (· + 1)

theorem lenOf_none : ∀ (l : List UInt8) (m : Nat), (∀ i (h : i < l.length), i < m → 128 ≤ (l[i]).toNat) → lenOf l m = none
  | [], _, _ => rfl
  | _ :: _, 0, _ => rfl
  | b :: r, m + 1, h => by
    have h0 := h 0 (by simp) (by omega)
    have := lenOf_none r m (fun i hi hm => h (i + 1) (by simpa using hi) (by omega))
    simp only [List.getElem_cons_zero] at h0
    simp [lenOf, this, Nat.not_lt.2 h0]
theorem lenOf_some : ∀ (l : List UInt8) (m j : Nat) (hj : j < l.length), j < m → (l[j]).toNat < 128 → (∀ i (h : i < l.length), i < j → 128 ≤ (l[i]).toNat) → lenOf l m = some (j + 1)
  | [], _, _, hj, _, _, _ => absurd hj (by simp)
  | _ :: _, 0, _, _, hm, _, _ => absurd hm (by omega)
  | b :: r, m + 1, 0, _, _, hb, _ => by simp at hb; simp [lenOf, hb]
  | b :: r, m + 1, j + 1, hj, hm, hb, h => by
    have h0 := h 0 (by simp) (by omega)
    simp only [List.getElem_cons_zero] at h0
    have := lenOf_some r m j (by simpa using hj) (by omega) (by simpa using hb) (fun i hi hlt => h (i + 1) (by simpa using hi) (by omega))
    simp [lenOf, this, Nat.not_lt.2 h0]
theorem lenOf_of_some : ∀ (l : List UInt8) (m j : Nat), lenOf l m = some j → 1 ≤ j ∧ j ≤ m ∧ ∃ h : j - 1 < l.length, (l[j - 1]).toNat < 128
  | [], _, _, h => by simp [lenOf] at h
  | _ :: _, 0, _, h => by simp [lenOf] at h
  | b :: r, m + 1, j, h => by
    unfold lenOf at h
    split at h
    · injection h with h; subst h; exact ⟨by omega, by omega, by simp, by simpa⟩
    · rw [Option.map_eq_some_iff] at h
      obtain ⟨j', h', rfl⟩ := h
      obtain ⟨h1, h2, h3, h4⟩ := lenOf_of_some r m j' h'
      refine ⟨by omega, by omega, by simp; omega, ?_⟩
      obtain ⟨q, rfl⟩ : ∃ q, j' = q + 1 := ⟨j' - 1, by omega⟩
      simpa using h4

/-- the number of the bytes' seven bits, the first byte's lowest. -/
def joinOf : List UInt8 → Nat
  | [] => 0
  | b :: r => b.toNat % 128 + 128 * joinOf r
theorem joinOf_snoc : ∀ (l : List UInt8) (b : UInt8), joinOf (l ++ [b]) = joinOf l + 2 ^ (7 * l.length) * (b.toNat % 128)
  | [], b => by simp [joinOf]
  | a :: r, b => by
    rw [List.cons_append, joinOf, joinOf_snoc r b, joinOf, List.length_cons, show 7 * (r.length + 1) = 7 * r.length + 7 by omega, Nat.pow_add, Nat.mul_add]
    have : 128 * (2 ^ (7 * r.length) * (b.toNat % 128)) = 2 ^ (7 * r.length) * 2 ^ 7 * (b.toNat % 128) := by
      rw [Nat.mul_comm (2 ^ (7 * r.length)) (2 ^ 7), Nat.mul_assoc]
    omega
theorem joinOf_lt : ∀ (l : List UInt8), joinOf l < 2 ^ (7 * l.length)
  | [] => by simp [joinOf]
  | b :: r => by
    have := joinOf_lt r
    rw [joinOf, List.length_cons, show 7 * (r.length + 1) = 7 * r.length + 7 by omega, Nat.pow_add]
    have : b.toNat % 128 < 128 := Nat.mod_lt _ (by omega)
    omega


theorem or_shift (J x k : Nat) (hJ : J < 2 ^ (7 * k)) (hk : k ≤ 9) : J ||| (x * 2 ^ (7 * k)) % 2 ^ 64 = (J + 2 ^ (7 * k) * x) % 2 ^ 64 := by
  have hd : 2 ^ 64 = 2 ^ (7 * k) * 2 ^ (64 - 7 * k) := by rw [← Nat.pow_add]; congr 1; omega
  generalize 2 ^ (64 - 7 * k) = R at hd
  have hR : 0 < R := Nat.pos_of_ne_zero (fun e => by subst e; simp at hd)
  generalize hP : 2 ^ (7 * k) = P at *
  rw [hd, Nat.mul_comm x P, Nat.mul_mod_mul_left, Nat.or_comm]
  have h1 : (P * (x % R)) ||| J = P * (x % R) + J := by
    have := nat_join (7 * k) (P * (x % R)) J (by rw [hP]; exact Nat.mul_mod_right _ _) (by rw [hP]; exact hJ)
    exact this
  rw [h1]
  have h2 : J + P * x = P * (x % R) + J + P * R * (x / R) := by
    have h3 : P * x = P * (R * (x / R) + x % R) := by rw [Nat.div_add_mod]
    rw [h3, Nat.mul_add, ← Nat.mul_assoc]; omega
  rw [h2, Nat.add_mul_mod_self_left]
  refine (Nat.mod_eq_of_lt ?_).symm
  have h4 : x % R < R := Nat.mod_lt _ hR
  calc P * (x % R) + J < P * (x % R) + P := by omega
    _ = P * (x % R + 1) := by rw [Nat.mul_add, Nat.mul_one]
    _ ≤ P * R := Nat.mul_le_mul_left _ h4

theorem join_step (bs : List UInt8) (k : Nat) (hk : k < bs.length) (h9 : k ≤ 9) :
    bits .or .u64 ((joinOf (bs.take k) : Nat) % 18446744073709551616 : Int) (IntKind.u64.wrap (IntKind.u64.wrap (bits .and .u8 ((bs[k]).toNat : Int) 127) * 2 ^ (k * 7))) =
      ((joinOf (bs.take (k + 1)) % 18446744073709551616 : Nat) : Int) := by
  have hJ := joinOf_lt (bs.take k)
  rw [List.length_take, Nat.min_eq_left (by omega)] at hJ
  have hb := (bs[k]).toNat_lt
  rw [List.take_succ_eq_append_getElem hk, joinOf_snoc, List.length_take, Nat.min_eq_left (by omega)]
  generalize joinOf (bs.take k) = J at *
  generalize (bs[k]).toNat = c at *
  have ea : bits .and .u8 (c : Int) 127 = ((c % 128 : Nat) : Int) := by
    rw [show (127 : Int) = ((127 : Nat) : Int) from rfl, u8_and_nat c 127 (by omega) (by omega), nat_mask7]
  have hJ64 : J < 18446744073709551616 := Nat.lt_of_lt_of_le hJ (by
    calc 2 ^ (7 * k) ≤ 2 ^ 63 := Nat.pow_le_pow_right (by omega) (by omega)
      _ ≤ _ := by omega)
  have hw : ∀ n : Nat, IntKind.u64.wrap (n : Int) = ((n % 18446744073709551616 : Nat) : Int) := fun n => by
    rw [IntKind.wrap_u64]; omega
  have hx : c % 128 % 18446744073709551616 = c % 128 := Nat.mod_eq_of_lt (by omega)
  rw [ea, hw, hx]
  have e2 : (((c % 128 : Nat) : Int) * 2 ^ (k * 7)) = ((c % 128 * 2 ^ (7 * k) : Nat) : Int) := by
    rw [Nat.mul_comm k 7]; simp
  have e3 : ((J : Nat) % 18446744073709551616 : Int) = ((J : Nat) : Int) := by omega
  rw [e2, hw, e3, u64_or_nat _ _ hJ64 (Nat.mod_lt _ (by omega))]
  have := or_shift J (c % 128) k hJ h9
  rw [show (2 : Nat) ^ 64 = 18446744073709551616 from rfl] at this
  rw [this]

theorem and64 (x : Nat) (h : x < 128) : bits .and .u8 (x : Int) 64 = if 64 ≤ x then 64 else 0 := by
  rw [show (64 : Int) = ((64 : Nat) : Int) from rfl, u8_and_nat x 64 (by omega) (by omega), show (64 : Nat) = 2 ^ 6 from rfl, nat_bit]
  by_cases h6 : 64 ≤ x
  · rw [if_pos (by simpa using h6), show x / 2 ^ 6 % 2 = 1 by omega]
  · rw [if_neg (by simpa using h6), show x / 2 ^ 6 % 2 = 0 by omega]; rfl

theorem ones_shl : ∀ j, j ≤ 9 → (18446744073709551615 * 2 ^ (7 * j)) % 18446744073709551616 = 18446744073709551616 - 2 ^ (7 * j)
  | 0, _ | 1, _ | 2, _ | 3, _ | 4, _ | 5, _ | 6, _ | 7, _ | 8, _ | 9, _ => by decide
  | n + 10, h => absurd h (by omega)

/-- the sign's bits put on. -/
theorem sign_join (J j : Nat) (hJ : J < 2 ^ (7 * j)) (h1 : 1 ≤ j) (h2 : j ≤ 10) (h10 : j = 10 → 127 * 2 ^ 63 ≤ J) :
    RowKit.wrap64 (bits .or .u64 ((J : Int) % 18446744073709551616) (IntKind.u64.wrap (18446744073709551615 * 2 ^ (min (j * 7) 64)))) = (J : Int) - 2 ^ (7 * j) := by
  have hw : ∀ n : Nat, IntKind.u64.wrap (n : Int) = ((n % 18446744073709551616 : Nat) : Int) := fun n => by
    rw [IntKind.wrap_u64]; omega
  have e2 : ((18446744073709551615 : Int) * 2 ^ (min (j * 7) 64)) = ((18446744073709551615 * 2 ^ (min (7 * j) 64) : Nat) : Int) := by
    rw [Nat.mul_comm j 7]; simp
  have e4 : ((J : Int) % 18446744073709551616) = ((J % 18446744073709551616 : Nat) : Int) := by simp
  have e3 : ((2 : Int) ^ (7 * j)) = ((2 ^ (7 * j) : Nat) : Int) := by simp
  rw [e2, hw, e3, e4]
  rcases Nat.lt_or_ge j 10 with h | h
  · rw [Nat.min_eq_left (by omega), ones_shl j (by omega)]
    have hd : (18446744073709551616 - 2 ^ (7 * j)) % 2 ^ (7 * j) = 0 := by
      have : 18446744073709551616 = 2 ^ (7 * j) * 2 ^ (64 - 7 * j) := by rw [← Nat.pow_add, show 7 * j + (64 - 7 * j) = 64 by omega]
      rw [this, ← Nat.mul_sub_one]
      exact Nat.mul_mod_right _ _
    have hP : 2 ^ (7 * j) ≤ 2 ^ 63 := Nat.pow_le_pow_right (by omega) (by omega)
    have hP0 : 0 < 2 ^ (7 * j) := Nat.pow_pos (by omega)
    have hor := nat_join (7 * j) (18446744073709551616 - 2 ^ (7 * j)) J hd hJ
    generalize 2 ^ (7 * j) = P at *
    rw [Nat.mod_eq_of_lt (by omega), u64_or_nat _ _ (by omega) (by omega), Nat.or_comm, hor]
    unfold RowKit.wrap64
    omega
  · have hj : j = 10 := by omega
    subst hj
    have hb := h10 rfl
    rw [show (18446744073709551615 * 2 ^ (min (7 * 10) 64)) % 18446744073709551616 = 0 by decide, u64_or_nat _ _ (by omega) (by omega), Nat.or_zero]
    unfold RowKit.wrap64
    omega

theorem unsign_join (J : Nat) (hJ : J < 2 ^ 63) : RowKit.wrap64 ((J : Int) % 18446744073709551616) = (J : Int) := by
  unfold RowKit.wrap64
  omega

/-- all bits of c are the same, from the highest of the first n on. -/
def evenB (c n : Nat) : Bool := c / 2 ^ (n - 1) == 0 || c / 2 ^ (n - 1) == 127 / 2 ^ (n - 1)

/-- the number with a sign that begins at k, and where the next byte is. -/
def sOf (bs : List UInt8) (k bits : Nat) : Option (Int × Nat) :=
  match lenOf (bs.drop k) ((bits + 6) / 7) with
  | none => none
  | some j => if j = (bits + 6) / 7 ∧ evenB (bs[k + j - 1]?.getD 0).toNat (bits - 7 * ((bits + 6) / 7 - 1)) = false then none
    else some ((joinOf ((bs.drop k).take j) : Int) - (if 64 ≤ (bs[k + j - 1]?.getD 0).toNat then 2 ^ (7 * j) else 0), k + j)

/-- the number without a sign that begins at k, and where the next byte is. -/
def uOf (bs : List UInt8) (k bits : Nat) : Option (Nat × Nat) :=
  match lenOf (bs.drop k) ((bits + 6) / 7) with
  | none => none
  | some j => if j = (bits + 6) / 7 ∧ (bs[k + j - 1]?.getD 0).toNat / 2 ^ (bits - 7 * ((bits + 6) / 7 - 1)) ≠ 0 then none
    else some (joinOf ((bs.drop k).take j) % 18446744073709551616, k + j)

/-- a number's size by its last byte. -/
theorem joinOf_last (l : List UInt8) (j : Nat) (h1 : 1 ≤ j) (hl : j ≤ l.length) :
    joinOf (l.take j) = joinOf (l.take (j - 1)) + 2 ^ (7 * (j - 1)) * ((l[j - 1]'(by omega)).toNat % 128) ∧ joinOf (l.take (j - 1)) < 2 ^ (7 * (j - 1)) := by
  obtain ⟨i, rfl⟩ : ∃ i, j = i + 1 := ⟨j - 1, by omega⟩
  have h := joinOf_lt (l.take i)
  rw [List.length_take, Nat.min_eq_left (by omega)] at h
  rw [List.take_succ_eq_append_getElem (by omega), joinOf_snoc, List.length_take, Nat.min_eq_left (by omega)]
  simp only [Nat.add_sub_cancel]
  exact ⟨trivial, h⟩

/-- the bytes of a number without a sign. -/
def putU (v : Nat) : List UInt8 := if v < 128 then [UInt8.ofNat v] else UInt8.ofNat (v % 128 + 128) :: putU (v / 128)
termination_by v
decreasing_by omega

theorem putU_small {v : Nat} (h : v < 128) : putU v = [UInt8.ofNat v] := by rw [putU, if_pos h]
theorem putU_big {v : Nat} (h : ¬ v < 128) : putU v = UInt8.ofNat (v % 128 + 128) :: putU (v / 128) := by rw [putU, if_neg h]

theorem putU_len : ∀ (n v : Nat), v < 128 ^ (n + 1) → (putU v).length ≤ n + 1
  | 0, v, h => by rw [putU_small (by simpa using h)]; simp
  | n + 1, v, h => by
    by_cases hv : v < 128
    · rw [putU_small hv]; simp
    · rw [putU_big hv, List.length_cons]
      have := putU_len n (v / 128) (by rw [Nat.pow_succ] at h; exact Nat.div_lt_of_lt_mul (by rw [Nat.mul_comm]; exact h))
      omega
theorem putU_len10 {v : Nat} (h : v < 18446744073709551616) : (putU v).length ≤ 10 := putU_len 9 v (by omega)
theorem putU_pos (v : Nat) : 0 < (putU v).length := by
  by_cases hv : v < 128
  · rw [putU_small hv]; simp
  · rw [putU_big hv]; simp

/-- the bytes of a number with a sign. -/
def putS (v : Int) : List UInt8 := if -64 ≤ v ∧ v < 64 then [UInt8.ofNat (v % 128).toNat] else UInt8.ofNat ((v % 128).toNat + 128) :: putS (v / 128)
termination_by v.natAbs
decreasing_by omega

theorem putS_small {v : Int} (h : -64 ≤ v ∧ v < 64) : putS v = [UInt8.ofNat (v % 128).toNat] := by rw [putS, if_pos h]
theorem putS_big {v : Int} (h : ¬ (-64 ≤ v ∧ v < 64)) : putS v = UInt8.ofNat ((v % 128).toNat + 128) :: putS (v / 128) := by rw [putS, if_neg h]
theorem putS_len : ∀ (n : Nat) (v : Int), -(64 * 128 ^ n) ≤ v → v < 64 * 128 ^ n → (putS v).length ≤ n + 1
  | 0, v, h1, h2 => by rw [putS_small (by omega)]; simp
  | n + 1, v, h1, h2 => by
    by_cases hv : -64 ≤ v ∧ v < 64
    · rw [putS_small hv]; simp
    · rw [putS_big hv, List.length_cons]
      rw [Int.pow_succ] at h1 h2
      have := putS_len n (v / 128) (by omega) (by omega)
      omega
theorem putS_len10 {v : Int} (h1 : -9223372036854775808 ≤ v) (h2 : v < 9223372036854775808) : (putS v).length ≤ 10 := putS_len 9 v (by omega) (by omega)
theorem putS_pos (v : Int) : 0 < (putS v).length := by
  by_cases hv : -64 ≤ v ∧ v < 64
  · rw [putS_small hv]; simp
  · rw [putS_big hv]; simp

/-- a byte with the bit that tells that another one follows. -/
theorem or128 (c : Nat) (h : c < 256) : bits .or .u8 (c : Int) 128 = ((c % 128 + 128 : Nat) : Int) := by
  rw [show (128 : Int) = ((128 : Nat) : Int) from rfl, u8_or_nat c 128 h (by omega)]
  congr 1
  have h1 : c = 128 * (c / 128) + c % 128 := (Nat.div_add_mod c 128).symm
  have h2 : c % 128 < 2 ^ 7 := Nat.mod_lt _ (by omega)
  rcases Nat.lt_or_ge c 128 with h3 | h3
  · rw [Nat.or_comm, nat_join 7 128 c (by decide) (by omega)]; omega
  · have h4 : c = 128 ||| c % 128 := by rw [nat_join 7 128 (c % 128) (by decide) h2]; omega
    rw [Nat.or_comm]
    conv => lhs; rw [h4]
    rw [← Nat.or_assoc, Nat.or_self, ← h4]; omega
theorem toNat_ofNat {n : Nat} (h : n < 256) : (UInt8.ofNat n).toNat = n := by simp [UInt8.toNat_ofNat']; omega

end Go.Proofs.YthkdpcoacjgomaaDoor.Leb

/- More of the plain mathematics of layer 1. No condition; nothing of the program. -/
namespace Go.Proofs.YthkdpcoacjgomaaDoor.Leb

/-- a number in n + 1 bytes. -/
def padU (v : Nat) : Nat → List UInt8
  | 0 => [UInt8.ofNat (v % 128)]
  | n + 1 => UInt8.ofNat (v % 128 + 128) :: padU (v / 128) n

theorem orb (x : Nat) : bits .or .u8 ((x : Int) % 256) 128 = ((x % 128 + 128 : Nat) : Int) := by
  rw [show ((x : Int) % 256) = ((x % 256 : Nat) : Int) by simp, or128 _ (by omega), show x % 256 % 128 = x % 128 by omega]

theorem pad_cells (v : Nat) (hv : v < 4294967296) :
    (#[Value.int .u8 (bits .or .u8 ((v : Int) % 256) 128), .int .u8 (bits .or .u8 ((v : Int) / 128 % 256) 128), .int .u8 (bits .or .u8 ((v : Int) / 128 / 128 % 256) 128),
      .int .u8 (bits .or .u8 ((v : Int) / 128 / 128 / 128 % 256) 128), .int .u8 (bits .and .u8 (bits .or .u8 ((v : Int) / 128 / 128 / 128 / 128) 128) 127)] : Array Value).toList = u8s (padU v 4) := by
  have e1 : ((v : Int) / 128) = ((v / 128 : Nat) : Int) := by simp
  have e2 : (((v / 128 : Nat) : Int) / 128) = ((v / 128 / 128 : Nat) : Int) := by simp
  have e3 : (((v / 128 / 128 : Nat) : Int) / 128) = ((v / 128 / 128 / 128 : Nat) : Int) := by simp
  have e4 : (((v / 128 / 128 / 128 : Nat) : Int) / 128) = ((v / 128 / 128 / 128 / 128 : Nat) : Int) := by simp
  rw [e1, e2, e3, e4, orb, orb, orb, orb, or128 _ (by omega)]
  rw [show (127 : Int) = ((127 : Nat) : Int) from rfl, u8_and_nat _ 127 (by omega) (by omega), nat_mask7]
  simp only [u8s, padU, List.map_cons, List.map_nil]
  rw [toNat_ofNat (by omega), toNat_ofNat (by omega), toNat_ofNat (by omega), toNat_ofNat (by omega), toNat_ofNat (by omega), Nat.add_mod_right, Nat.mod_mod]

end Go.Proofs.YthkdpcoacjgomaaDoor.Leb

/- Reading what was put: plain mathematics of layer 1. No condition; nothing of the program. -/
namespace Go.Proofs.YthkdpcoacjgomaaDoor.Leb

/-- a number's bytes: all but the last one tell that another one follows. -/
def Enc : List UInt8 → Prop
  | [] => False
  | [b] => b.toNat < 128
  | b :: c :: r => 128 ≤ b.toNat ∧ Enc (c :: r)

theorem Enc.pos : ∀ {l : List UInt8}, Enc l → 0 < l.length
  | [], h => h.elim
  | [_], _ => by simp
  | _ :: _ :: _, _ => by simp
theorem enc_one {n : Nat} (h : n < 128) : Enc [UInt8.ofNat n] := by
  show (UInt8.ofNat n).toNat < 128
  rw [toNat_ofNat (by omega)]; exact h
theorem enc_more {n : Nat} {l : List UInt8} (h : n < 128) (hl : Enc l) : Enc (UInt8.ofNat (n + 128) :: l) := by
  cases l with
  | nil => exact hl.elim
  | cons c r => exact ⟨by rw [toNat_ofNat (by omega)]; omega, hl⟩

theorem lenOf_enc : ∀ {l : List UInt8} (_ : Enc l) (more : List UInt8) (m : Nat), lenOf (l ++ more) m = if l.length ≤ m then some l.length else none
  | [], h, _, _ => h.elim
  | [b], h, more, 0 => by simp [lenOf]
  | [b], h, more, m + 1 => by
    have h' : b.toNat < 128 := h
    simp [lenOf, h']
  | b :: c :: r, h, more, 0 => by simp [lenOf]
  | b :: c :: r, h, more, m + 1 => by
    have h1 : 128 ≤ b.toNat := h.1
    have ih := lenOf_enc h.2 more m
    have h2 : ¬ b.toNat < 128 := by omega
    rw [List.cons_append, lenOf, if_neg h2, ih]
    simp only [List.length_cons]
    by_cases hm : r.length + 1 ≤ m
    · rw [if_pos hm, if_pos (by omega)]; simp
    · rw [if_neg hm, if_neg (by omega)]; simp
theorem Enc.last : ∀ {l : List UInt8} (h : Enc l), (l[l.length - 1]'(by have := h.pos; omega)).toNat < 128
  | [], h => h.elim
  | [_], h => h
  | _ :: c :: r, h => Enc.last (l := c :: r) h.2

theorem uOf_enc {l : List UInt8} (h : Enc l) (more : List UInt8) (bits : Nat) (h0 : 1 ≤ bits) (h1 : bits ≤ 64) :
    uOf (l ++ more) 0 bits = if l.length ≤ (bits + 6) / 7 ∧ joinOf l < 2 ^ bits then some (joinOf l, l.length) else none := by
  have hp := h.pos
  have hl := joinOf_last l l.length hp (Nat.le_refl _)
  rw [List.take_length, Nat.mod_eq_of_lt h.last] at hl
  have hlt := joinOf_lt l
  unfold uOf
  rw [List.drop_zero, lenOf_enc h]
  by_cases hm : l.length ≤ (bits + 6) / 7
  · rw [if_pos hm]
    simp only [Nat.zero_add, List.take_left]
    have hget : (l ++ more)[l.length - 1]?.getD 0 = l[l.length - 1]'(by omega) := by
      rw [List.getElem?_append_left (by omega)]
      simp [show l.length - 1 < l.length by omega]
    rw [hget]
    obtain ⟨x, hx⟩ : ∃ x, x = (l[l.length - 1]'(by omega)).toNat := ⟨_, rfl⟩
    rw [← hx] at hl ⊢
    have hmod : joinOf l < 2 ^ bits → joinOf l % 18446744073709551616 = joinOf l := fun hh => Nat.mod_eq_of_lt (Nat.lt_of_lt_of_le hh (by
      have : 2 ^ bits ≤ 2 ^ 64 := Nat.pow_le_pow_right (by omega) h1
      omega))
    by_cases hj : l.length = (bits + 6) / 7
    · have hd : x / 2 ^ (bits - 7 * ((bits + 6) / 7 - 1)) = joinOf l / 2 ^ bits := by
        have e : bits = 7 * (l.length - 1) + (bits - 7 * ((bits + 6) / 7 - 1)) := by omega
        generalize bits - 7 * ((bits + 6) / 7 - 1) = q at *
        rw [e, Nat.pow_add, ← Nat.div_div_eq_div_mul, hl.1, Nat.add_mul_div_left _ _ (Nat.pow_pos (by omega)), Nat.div_eq_of_lt hl.2, Nat.zero_add]
      rw [hd]
      by_cases hf : joinOf l < 2 ^ bits
      · rw [if_neg (by rw [Nat.div_eq_of_lt hf]; simp), if_pos ⟨hm, hf⟩, hmod hf]
      · rw [if_pos ⟨hj, by rw [Nat.ne_zero_iff_zero_lt]; exact Nat.div_pos (by omega) (Nat.pow_pos (by omega))⟩, if_neg (fun hh => hf hh.2)]
    · have hf : joinOf l < 2 ^ bits := Nat.lt_of_lt_of_le hlt (Nat.pow_le_pow_right (by omega) (by omega))
      rw [if_neg (fun hh => hj hh.1), if_pos ⟨hm, hf⟩, hmod hf]
  · rw [if_neg hm, if_neg (fun hh => hm hh.1)]

theorem padU_enc : ∀ (n v : Nat), Enc (padU v n)
  | 0, v => enc_one (Nat.mod_lt _ (by omega))
  | n + 1, v => enc_more (Nat.mod_lt _ (by omega)) (padU_enc n (v / 128))
theorem padU_length : ∀ (n v : Nat), (padU v n).length = n + 1
  | 0, _ => rfl
  | n + 1, v => by rw [padU, List.length_cons, padU_length n]
theorem padU_join : ∀ (n v : Nat), v < 128 ^ (n + 1) → joinOf (padU v n) = v
  | 0, v, h => by
    rw [padU, joinOf, joinOf, toNat_ofNat (by omega)]; omega
  | n + 1, v, h => by
    rw [padU, joinOf, toNat_ofNat (by omega), padU_join n (v / 128) (by rw [Nat.pow_succ] at h; exact Nat.div_lt_of_lt_mul (by rw [Nat.mul_comm]; exact h))]; omega
theorem pad_read (v : Nat) (h : v < 4294967296) : uOf (padU v 4) 0 32 = some (v, 5) := by
  have := uOf_enc (padU_enc 4 v) [] 32 (by decide) (by decide)
  rw [List.append_nil, padU_length, padU_join 4 v (by omega), if_pos ⟨by decide, by omega⟩] at this
  exact this

theorem putU_enc (v : Nat) : Enc (putU v) := by
  induction v using Nat.strongRecOn with
  | _ v ih =>
    by_cases h : v < 128
    · rw [putU_small h]; exact enc_one h
    · rw [putU_big h]; exact enc_more (Nat.mod_lt _ (by omega)) (ih (v / 128) (by omega))
theorem putU_join (v : Nat) : joinOf (putU v) = v := by
  induction v using Nat.strongRecOn with
  | _ v ih =>
    by_cases h : v < 128
    · rw [putU_small h, joinOf, joinOf, toNat_ofNat (by omega)]; omega
    · rw [putU_big h, joinOf, toNat_ofNat (by omega), ih (v / 128) (by omega)]; omega
theorem putU_len_of (j v : Nat) (h : 1 ≤ j) (hv : v < 2 ^ (7 * j)) : (putU v).length ≤ j := by
  obtain ⟨i, rfl⟩ : ∃ i, j = i + 1 := ⟨j - 1, by omega⟩
  exact putU_len i v (by rw [show (128 : Nat) = 2 ^ 7 from rfl, ← Nat.pow_mul]; exact hv)

theorem put_read (v bits : Nat) (more : List UInt8) (h0 : 1 ≤ bits) (h1 : bits ≤ 64) :
    uOf (putU v ++ more) 0 bits = if v < 2 ^ bits then some (v, (putU v).length) else none := by
  rw [uOf_enc (putU_enc v) more bits h0 h1, putU_join]
  by_cases hv : v < 2 ^ bits
  · rw [if_pos hv, if_pos ⟨putU_len_of _ v (by omega) (Nat.lt_of_lt_of_le hv (Nat.pow_le_pow_right (by omega) (by omega))), hv⟩]
  · rw [if_neg hv, if_neg (fun hh => hv hh.2)]

end Go.Proofs.YthkdpcoacjgomaaDoor.Leb

/- Reading back numbers with a sign; what is read and put is no longer: plain mathematics of layer 1. No condition; nothing of the program. -/
namespace Go.Proofs.YthkdpcoacjgomaaDoor.Leb

/-- what bytes say with a sign. -/
def sval (l : List UInt8) : Int := (joinOf l : Int) - (if 64 ≤ (l[l.length - 1]?.getD 0).toNat then 2 ^ (7 * l.length) else 0)

theorem sval_one (b : UInt8) (h : b.toNat < 128) : sval [b] = (b.toNat : Int) - (if 64 ≤ b.toNat then 128 else 0) := by
  simp [sval, joinOf]; omega
theorem sval_cons (b c : UInt8) (r : List UInt8) : sval (b :: c :: r) = (b.toNat % 128 : Nat) + 128 * sval (c :: r) := by
  unfold sval
  rw [joinOf]
  have e : (b :: c :: r)[(b :: c :: r).length - 1]? = (c :: r)[(c :: r).length - 1]? := by simp
  rw [e, show 7 * (b :: c :: r).length = 7 * (c :: r).length + 7 by simp; omega, Int.pow_add]
  split <;> omega

theorem putS_enc (n : Nat) : ∀ v : Int, v.natAbs ≤ n → Enc (putS v) ∧ sval (putS v) = v := by
  induction n using Nat.strongRecOn with
  | _ n ih =>
    intro v hv
    by_cases h : -64 ≤ v ∧ v < 64
    · rw [putS_small h]
      have hb : (v % 128).toNat < 128 := by omega
      refine ⟨enc_one hb, ?_⟩
      rw [sval_one _ (by rw [toNat_ofNat (by omega)]; exact hb), toNat_ofNat (by omega)]
      split <;> omega
    · rw [putS_big h]
      obtain ⟨h1, h2⟩ := ih (v / 128).natAbs (by omega) (v / 128) (Nat.le_refl _)
      refine ⟨enc_more (by omega) h1, ?_⟩
      cases hp : putS (v / 128) with
      | nil => rw [hp] at h1; exact h1.elim
      | cons c r =>
        rw [hp] at h2
        rw [sval_cons, h2, toNat_ofNat (by omega)]
        omega

/-- a sign's bytes are as few as can be. -/
theorem sval_bounds : ∀ {l : List UInt8} (_ : Enc l), -(2 ^ (7 * l.length - 1) : Int) ≤ sval l ∧ sval l < 2 ^ (7 * l.length - 1)
  | [], h => h.elim
  | [b], h => by
    have h' : b.toNat < 128 := h
    rw [sval_one b h']
    simp
    split <;> omega
  | b :: c :: r, h => by
    have ih := sval_bounds (l := c :: r) h.2
    rw [sval_cons]
    have e : 7 * (b :: c :: r).length - 1 = (7 * (c :: r).length - 1) + 7 := by simp; omega
    rw [e, Int.pow_add]
    have : b.toNat % 128 < 128 := Nat.mod_lt _ (by omega)
    omega

theorem sOf_enc64 {l : List UInt8} (h : Enc l) (more : List UInt8) (h1 : -9223372036854775808 ≤ sval l) (h2 : sval l < 9223372036854775808) (h10 : l.length ≤ 10) :
    sOf (l ++ more) 0 64 = some (sval l, l.length) := by
  have hp := h.pos
  have hl := joinOf_last l l.length hp (Nat.le_refl _)
  rw [List.take_length, Nat.mod_eq_of_lt h.last] at hl
  have hlast := h.last
  unfold sOf
  rw [List.drop_zero, lenOf_enc h, if_pos (by omega)]
  simp only [Nat.zero_add, List.take_left]
  have hget0 : l[l.length - 1]?.getD 0 = l[l.length - 1]'(by omega) := by simp [show l.length - 1 < l.length by omega]
  have hget : (l ++ more)[l.length - 1]?.getD 0 = l[l.length - 1]'(by omega) := by
    rw [List.getElem?_append_left (by omega)]
    exact hget0
  rw [hget]
  unfold sval at *
  rw [hget0] at h1 h2 ⊢
  obtain ⟨x, hx⟩ : ∃ x, x = (l[l.length - 1]'(by omega)).toNat := ⟨_, rfl⟩
  rw [← hx] at hl h1 h2 hlast ⊢
  rw [if_neg]
  rintro ⟨e1, e2⟩
  have e1' : l.length = 10 := by omega
  rw [e1'] at hl h1 h2
  have hev : evenB x 1 = true := by
    have h3 : (2 : Int) ^ (7 * 10) = 1180591620717411303424 := by decide
    have h4 : (2 : Nat) ^ (7 * (10 - 1)) = 9223372036854775808 := by decide
    rw [h3] at h1 h2
    rw [h4] at hl
    simp only [evenB, Nat.sub_self, Nat.pow_zero, Nat.div_one, Bool.or_eq_true, beq_iff_eq]
    split at h1 <;> omega
  rw [hev] at e2
  cases e2

theorem putS_read (v : Int) (more : List UInt8) (h1 : -9223372036854775808 ≤ v) (h2 : v < 9223372036854775808) :
    sOf (putS v ++ more) 0 64 = some (v, (putS v).length) := by
  obtain ⟨he, hv⟩ := putS_enc v.natAbs v (Nat.le_refl _)
  have := sOf_enc64 he more (by rw [hv]; exact h1) (by rw [hv]; exact h2) (putS_len10 h1 h2)
  rw [hv] at this
  exact this

theorem putS_len_of (j : Nat) (v : Int) (h : 1 ≤ j) (h1 : -(2 ^ (7 * j - 1) : Int) ≤ v) (h2 : v < 2 ^ (7 * j - 1)) : (putS v).length ≤ j := by
  obtain ⟨i, rfl⟩ : ∃ i, j = i + 1 := ⟨j - 1, by omega⟩
  have e : (2 : Int) ^ (7 * (i + 1) - 1) = 64 * 128 ^ i := by
    rw [show 7 * (i + 1) - 1 = 6 + 7 * i by omega, Int.pow_add, Int.pow_mul]; rfl
  rw [e] at h1 h2
  exact putS_len i v h1 h2

/-- the bytes that are read are a number's. -/
theorem enc_of_len : ∀ (l : List UInt8) (m j : Nat), lenOf l m = some j → Enc (l.take j) ∧ (l.take j).length = j
  | [], _, _, h => by simp [lenOf] at h
  | _ :: _, 0, _, h => by simp [lenOf] at h
  | b :: r, m + 1, j, h => by
    unfold lenOf at h
    split at h
    · injection h with h; subst h; exact ⟨by simpa [Enc], by simp⟩
    · rename_i hb
      rw [Option.map_eq_some_iff] at h
      obtain ⟨j', h', rfl⟩ := h
      obtain ⟨h1, h2⟩ := enc_of_len r m j' h'
      rw [List.take_succ_cons]
      refine ⟨?_, by simp [h2]⟩
      cases hq : r.take j' with
      | nil => rw [hq] at h1; exact h1.elim
      | cons c q => rw [hq] at h1; exact ⟨by omega, h1⟩

theorem uOf_short (bs : List UInt8) (k bits u n : Nat) (h1 : bits ≤ 64) (h : uOf bs k bits = some (u, n)) : k ≤ n ∧ (putU u).length ≤ n - k := by
  unfold uOf at h
  split at h
  · cases h
  · rename_i j hj
    obtain ⟨he, hl⟩ := enc_of_len _ _ _ hj
    obtain ⟨j1, j2, _⟩ := lenOf_of_some _ _ _ hj
    split at h
    · cases h
    · injection h with h
      injection h with e1 e2
      subst e1 e2
      refine ⟨by omega, ?_⟩
      rw [Nat.add_sub_cancel_left]
      have hlt := joinOf_lt ((bs.drop k).take j)
      rw [hl] at hlt
      exact putU_len_of j _ j1 (Nat.lt_of_le_of_lt (Nat.mod_le _ _) hlt)
theorem sOf_short (bs : List UInt8) (k bits n : Nat) (s : Int) (h : sOf bs k bits = some (s, n)) : k ≤ n ∧ (putS s).length ≤ n - k := by
  unfold sOf at h
  split at h
  · cases h
  · rename_i j hj
    obtain ⟨he, hl⟩ := enc_of_len _ _ _ hj
    obtain ⟨j1, j2, j3, _⟩ := lenOf_of_some _ _ _ hj
    split at h
    · cases h
    · injection h with h
      injection h with e1 e2
      subst e1 e2
      refine ⟨by omega, ?_⟩
      rw [Nat.add_sub_cancel_left]
      have hb := sval_bounds he
      unfold sval at hb
      rw [hl] at hb
      have e : ((bs.drop k).take j)[j - 1]? = bs[k + j - 1]? := by
        rw [List.getElem?_take, if_pos (by omega), List.getElem?_drop]; congr 1; omega
      rw [e] at hb
      exact putS_len_of j _ j1 hb.1 hb.2
/-- a number without a sign that is read is one of 64 bits; one with a sign, too. -/
theorem uOf_lt (bs : List UInt8) (k bits u n : Nat) (h : uOf bs k bits = some (u, n)) : u < 18446744073709551616 := by
  unfold uOf at h
  split at h
  · cases h
  · split at h
    · cases h
    · injection h with h
      injection h with e1 e2
      subst e1
      exact Nat.mod_lt _ (by omega)

theorem uOf_le (bs : List UInt8) (k bits u n : Nat) (h : uOf bs k bits = some (u, n)) : n ≤ bs.length := by
  unfold uOf at h
  split at h
  · cases h
  · rename_i j hj
    obtain ⟨j1, j2, j3, _⟩ := lenOf_of_some _ _ _ hj
    simp only [List.length_drop] at j3
    split at h
    · cases h
    · injection h with h
      injection h with e1 e2
      omega
theorem sOf_le (bs : List UInt8) (k bits n : Nat) (s : Int) (h : sOf bs k bits = some (s, n)) : n ≤ bs.length := by
  unfold sOf at h
  split at h
  · cases h
  · rename_i j hj
    obtain ⟨j1, j2, j3, _⟩ := lenOf_of_some _ _ _ hj
    simp only [List.length_drop] at j3
    split at h
    · cases h
    · injection h with h
      injection h with e1 e2
      omega

end Go.Proofs.YthkdpcoacjgomaaDoor.Leb
