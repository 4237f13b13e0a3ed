/- Plain mathematics of layer 6: an expression's bytes, and what is read from bytes; what was put is read as it was. No condition; nothing of the program. -/
import Derived.Test.YtbhniddgkdldlaaGreatDoorTreeMath20
import Derived.Test.YtbhniddgkdldlaaGreatDoorLebM
set_option linter.unusedVariables false
set_option linter.unusedSimpArgs false
namespace Go.Proofs.YtbhniddgkdldlaaGreatDoor.Leb

theorem sOf_enc32 {l : List UInt8} (h : Enc l) (more : List UInt8) (h1 : -2147483648 ≤ sval l) (h2 : sval l < 2147483648) (h5 : l.length ≤ 5) :
    sOf (l ++ more) 0 32 = some (sval l, l.length) := by
  have hp := h.pos
  have hl := joinOf_last l l.length hp (Nat.le_refl _)
  rw [List.take_length, Nat.mod_eq_of_lt h.last] at hl
  have hlast := h.last
  unfold sOf
  rw [List.drop_zero, lenOf_enc h, if_pos (by omega)]
  simp only [Nat.zero_add, List.take_left]
  have hget0 : l[l.length - 1]?.getD 0 = l[l.length - 1]'(by omega) := by simp [show l.length - 1 < l.length by omega]
  have hget : (l ++ more)[l.length - 1]?.getD 0 = l[l.length - 1]'(by omega) := by
    rw [List.getElem?_append_left (by omega)]
    exact hget0
  rw [hget]
  unfold sval at *
  rw [hget0] at h1 h2 ⊢
  obtain ⟨x, hx⟩ : ∃ x, x = (l[l.length - 1]'(by omega)).toNat := ⟨_, rfl⟩
  rw [← hx] at hl h1 h2 hlast ⊢
  rw [if_neg]
  rintro ⟨e1, e2⟩
  have e1' : l.length = 5 := by omega
  rw [e1'] at hl h1 h2
  have hev : evenB x (32 - 7 * ((32 + 6) / 7 - 1)) = true := by
    have h3 : (2 : Int) ^ (7 * 5) = 34359738368 := by decide
    have h4 : (2 : Nat) ^ (7 * (5 - 1)) = 268435456 := by decide
    rw [h3] at h1 h2
    rw [h4] at hl
    have h6 : (2 : Nat) ^ (32 - 7 * ((32 + 6) / 7 - 1) - 1) = 8 := by decide
    simp only [evenB, h6, Bool.or_eq_true, beq_iff_eq]
    split at h1 <;> omega
  rw [hev] at e2
  cases e2
theorem putS_read32 (v : Int) (more : List UInt8) (h1 : -2147483648 ≤ v) (h2 : v < 2147483648) : sOf (putS v ++ more) 0 32 = some (v, (putS v).length) := by
  obtain ⟨he, hv⟩ := putS_enc v.natAbs v (Nat.le_refl _)
  have := sOf_enc32 he more (by rw [hv]; exact h1) (by rw [hv]; exact h2) (putS_len 4 v (by omega) (by omega))
  rw [hv] at this
  exact this
end Go.Proofs.YtbhniddgkdldlaaGreatDoor.Leb

namespace Go.Proofs.YtbhniddgkdldlaaGreatDoor.Trx
open Go.RowKit

/-! ### The bytes -/
def b8 (n : Int) : UInt8 := UInt8.ofNat (n % 256).toNat
/-- a number without a sign. -/
def eN (n : Int) : List UInt8 := Leb.putU (n % 18446744073709551616).toNat
/-- a constant of 32 bits, of 64 bits. -/
def s32 (v : Int) : Int := if 2147483648 ≤ v then v - 4294967296 else v
def s64 (v : Int) : Int := if 9223372036854775808 ≤ v then v - 18446744073709551616 else v
def eRes (t : Int) : UInt8 := if t = 0 then 64 else b8 (128 - t)
/-- what follows an operation's byte, in an instruction that is no block. -/
def eP (op a b v : Int) (L : List Int) : List UInt8 :=
  if knd op = 7 ∨ knd op = 8 then eN a ++ eN b else if knd op = 9 then [0] else if op = 65 then Leb.putS (s32 v) else if op = 66 then Leb.putS (s64 v)
  else if op = 14 then eN ((L.length : Int) - 1) ++ L.flatMap eN else if op = 17 then eN a ++ [0] else if knd op = 4 ∨ knd op = 6 ∨ op = 12 ∨ op = 13 then eN a else []
/-- what follows an operation's byte. -/
def eB (op a b v t : Int) (L : List Int) (body els : List UInt8) (he : Bool) : List UInt8 :=
  if knd op = 2 then eRes t :: (body ++ ((if he then 5 :: els else []) ++ [11])) else eP op a b v L
/-- instructions' bytes, without an end. -/
def enc : Fo → List UInt8
  | .nil => []
  | .cons op a b v t L body els he next => b8 op :: (eB op a b v t L (enc body) (enc els) he ++ enc next)
theorem enc_append (l m : List Nd) : enc (ofN (l ++ m)) = enc (ofN l) ++ enc (ofN m) := by
  induction l with
  | nil => rfl
  | cons n l ih => simp only [List.cons_append, ofN, enc, ih, List.append_assoc]

/-! ### The reader: what is read, the bytes behind it and their place; or what is amiss, and where -/
abbrev Rs (α : Type) := Except (Nat × Nat) (α × List UInt8 × Nat)
def rdInt (l : List UInt8) (p : Nat) : Rs Int := match Leb.uOf l 0 32 with
  | none => .error (2, p)
  | some (v, k) => .ok ((v : Int), l.drop k, p + k)
def rdSig (bits : Nat) (l : List UInt8) (p : Nat) : Rs Int := match Leb.sOf l 0 bits with
  | none => .error (2, p)
  | some (z, k) => .ok (z, l.drop k, p + k)
def rdMust (x : UInt8) : List UInt8 → Nat → Rs Unit
  | [], p => .error (2, p)
  | b :: r, p => if b = x then .ok ((), r, p + 1) else .error (2, p)
def rdKind : List UInt8 → Nat → Rs Int
  | [], p => .error (2, p)
  | b :: r, p => if b = 64 then .ok (0, r, p + 1) else if b = 127 then .ok (1, r, p + 1) else if b = 126 then .ok (2, r, p + 1) else if b = 125 ∨ b = 124 then .error (3, p) else .error (2, p)
def rdTab : Nat → List UInt8 → Nat → Rs (List Int)
  | 0, l, p => .ok ([], l, p)
  | n + 1, l, p => match rdInt l p with
    | .error e => .error e
    | .ok (x, l1, p1) => match rdTab n l1 p1 with
      | .error e => .error e
      | .ok (xs, l2, p2) => .ok (x :: xs, l2, p2)
/-- an instruction that is no block, behind its operation's byte. -/
def rdP (op : Int) (l : List UInt8) (p : Nat) : Rs Nd :=
  if knd op = 7 ∨ knd op = 8 then match rdInt l p with
    | .error e => .error e
    | .ok (a, l1, p1) => match rdInt l1 p1 with
      | .error e => .error e
      | .ok (b, l2, p2) => .ok (⟨op, a, b, 0, 0, [], .nil, .nil, false⟩, l2, p2)
  else if knd op = 9 then match rdMust 0 l p with
    | .error e => .error e
    | .ok (_, l1, p1) => .ok (⟨op, 0, 0, 0, 0, [], .nil, .nil, false⟩, l1, p1)
  else if op = 65 then match rdSig 32 l p with
    | .error e => .error e
    | .ok (z, l1, p1) => .ok (⟨op, 0, 0, z % 4294967296, 0, [], .nil, .nil, false⟩, l1, p1)
  else if op = 66 then match rdSig 64 l p with
    | .error e => .error e
    | .ok (z, l1, p1) => .ok (⟨op, 0, 0, z % 18446744073709551616, 0, [], .nil, .nil, false⟩, l1, p1)
  else if op = 14 then match rdInt l p with
    | .error e => .error e
    | .ok (n, l1, p1) => if 63 < n then .error (7, p) else match rdTab (n.toNat + 1) l1 p1 with
      | .error e => .error e
      | .ok (L, l2, p2) => .ok (⟨op, 0, 0, 0, 0, L, .nil, .nil, false⟩, l2, p2)
  else if op = 17 then match rdInt l p with
    | .error e => .error e
    | .ok (a, l1, p1) => match rdMust 0 l1 p1 with
      | .error e => .error e
      | .ok (_, l2, p2) => .ok (⟨op, a, 0, 0, 0, [], .nil, .nil, false⟩, l2, p2)
  else if knd op = 4 ∨ knd op = 6 ∨ op = 12 ∨ op = 13 then match rdInt l p with
    | .error e => .error e
    | .ok (a, l1, p1) => .ok (⟨op, a, 0, 0, 0, [], .nil, .nil, false⟩, l1, p1)
  else .ok (⟨op, 0, 0, 0, 0, [], .nil, .nil, false⟩, l, p)
/-- an instruction in front of others. -/
def consN (n : Nd) (f : Fo) : Fo := .cons n.op n.a n.b n.v n.t n.L n.body n.els n.he f
/-- instructions up to an end or an else: they, which of the two it is, how many were read. -/
def rdL : Nat → Nat → Nat → List UInt8 → Nat → Rs (Fo × Nat × Nat)
  | 0, _, _, _, p => .error (0, p)
  | _ + 1, _, _, [], p => .error (2, p)
  | fuel + 1, depth, n, b :: l, p =>
    if b = 11 ∨ b = 5 then .ok ((.nil, b.toNat, n), l, p + 1)
    else if Opx.flt b.toNat then .error (3, p) else if knd b.toNat = 0 then .error (2, p) else if 512 ≤ n ∨ (knd b.toNat = 2 ∧ 32 ≤ depth) then .error (7, p)
    else
      let go : Nd → Nat → List UInt8 → Nat → Rs (Fo × Nat × Nat) := fun nd n' l' p' => match rdL fuel depth n' l' p' with
        | .error e => .error e
        | .ok ((f, last, n2), l2, p2) => .ok ((consN nd f, last, n2), l2, p2)
      if knd b.toNat = 2 then match rdKind l (p + 1) with
        | .error e => .error e
        | .ok (t, l1, p1) => match rdL fuel (depth + 1) (n + 1) l1 p1 with
          | .error e => .error e
          | .ok ((body, last, n2), l2, p2) =>
            if last = 5 ∧ b = 4 then match rdL fuel (depth + 1) n2 l2 p2 with
              | .error e => .error e
              | .ok ((els, last2, n3), l3, p3) => if last2 = 5 then .error (2, p3 - 1) else go ⟨b.toNat, 0, 0, 0, t, [], body, els, true⟩ n3 l3 p3
            else if last = 5 then .error (2, p2 - 1) else go ⟨b.toNat, 0, 0, 0, t, [], body, .nil, false⟩ n2 l2 p2
      else match rdP b.toNat l (p + 1) with
        | .error e => .error e
        | .ok (nd, l1, p1) => go nd (n + 1) l1 p1

/-! ### What was put is read as it was -/
theorem eN_read (a : Int) (h : num32 a = true) (more : List UInt8) (p : Nat) : rdInt (eN a ++ more) p = .ok (a, more, p + (eN a).length) := by
  obtain ⟨h1, h2⟩ := (num32_iff a).1 h
  have e : (a % 18446744073709551616).toNat = a.toNat := by omega
  unfold rdInt eN
  have h32 : (2 : Nat) ^ 32 = 4294967296 := by decide
  rw [e, Leb.put_read _ 32 more (by omega) (by omega), if_pos (by omega)]
  simp only [List.drop_left]
  rw [Int.toNat_of_nonneg h1]
theorem tab_read (L : List Int) (h : L.all num32 = true) (more : List UInt8) (p : Nat) : rdTab L.length (L.flatMap eN ++ more) p = .ok (L, more, p + (L.flatMap eN).length) := by
  induction L generalizing p with
  | nil => rfl
  | cons x L ih =>
    rw [List.all_cons, Bool.and_eq_true] at h
    simp only [List.length_cons, List.flatMap_cons, List.append_assoc, rdTab]
    rw [eN_read x h.1]
    simp only
    rw [ih h.2]
    simp only [List.length_append]
    rw [Nat.add_assoc]
theorem s32_read (v : Int) (h0 : 0 ≤ v) (h : v ≤ 4294967295) (more : List UInt8) (p : Nat) : rdSig 32 (Leb.putS (s32 v) ++ more) p = .ok (s32 v, more, p + (Leb.putS (s32 v)).length) ∧ s32 v % 4294967296 = v := by
  have h1 : -2147483648 ≤ s32 v ∧ s32 v < 2147483648 := by unfold s32; split <;> omega
  unfold rdSig
  rw [Leb.putS_read32 _ more h1.1 h1.2]
  refine ⟨by simp only [List.drop_left], by unfold s32; split <;> omega⟩
theorem s64_read (v : Int) (h0 : 0 ≤ v) (h : v ≤ 18446744073709551615) (more : List UInt8) (p : Nat) : rdSig 64 (Leb.putS (s64 v) ++ more) p = .ok (s64 v, more, p + (Leb.putS (s64 v)).length) ∧ s64 v % 18446744073709551616 = v := by
  have h1 : -9223372036854775808 ≤ s64 v ∧ s64 v < 9223372036854775808 := by unfold s64; split <;> omega
  unfold rdSig
  rw [Leb.putS_read _ more h1.1 h1.2]
  refine ⟨by simp only [List.drop_left], by unfold s64; split <;> omega⟩
theorem knd_in {op : Int} (h : knd op ≠ 0) : 0 ≤ op ∧ op < 174 := by
  unfold knd at h
  split at h
  · exact absurd rfl h
  · rename_i hn
    unfold Opx.nm at hn
    split at hn
    · rename_i h0
      refine ⟨h0, ?_⟩
      rcases Nat.lt_or_ge op.toNat 174 with h1 | h1
      · omega
      · have ht : Opx.tab.length = 174 := by decide +kernel
        exact absurd (by rw [List.getD_eq_getElem?_getD, List.getElem?_eq_none (by omega)]; rfl) hn
    · exact absurd rfl hn
theorem knd_kd {op : Int} (h : knd op ≠ 0) : knd op = Opx.kd op := by
  unfold knd at *
  split at h
  · exact absurd rfl h
  · rename_i hn
    rw [if_neg hn]
theorem b8_nat {op : Int} (h : knd op ≠ 0) : ((b8 op).toNat : Int) = op := by
  obtain ⟨h1, h2⟩ := knd_in h
  unfold b8
  rw [Leb.toNat_ofNat (by omega)]
  omega
theorem knd_5 : knd 5 = 0 := by decide +kernel
theorem knd_11 : knd 11 = 0 := by decide +kernel
theorem knd_flt {op : Int} (h : knd op ≠ 0) : Opx.flt op = false := by
  obtain ⟨h1, h2⟩ := knd_in h
  have := List.all_eq_true.1 Opx.no_flt op.toNat (List.mem_range.2 (by omega))
  rw [Int.toNat_of_nonneg h1] at this
  rw [Bool.or_eq_true] at this
  rcases this with h3 | h3
  · simpa using h3
  · exact absurd (by unfold knd; rw [if_pos h3]) h
theorem kd_iff (op : Int) : (Opx.kd op = 2 ↔ 2 ≤ op ∧ op ≤ 4) ∧ (Opx.kd op = 4 ↔ 16 ≤ op ∧ op ≤ 17) ∧ (Opx.kd op = 6 ↔ 28 ≤ op ∧ op ≤ 36) ∧ (Opx.kd op = 7 ↔ 37 ≤ op ∧ op ≤ 53) ∧ (Opx.kd op = 8 ↔ 54 ≤ op ∧ op ≤ 62) ∧ (Opx.kd op = 9 ↔ 63 ≤ op ∧ op ≤ 64) ∧ (Opx.kd op = 10 ↔ 65 ≤ op ∧ op ≤ 66) := by
  have key : (op ≤ 1 ∧ Opx.kd op = 1) ∨ (2 ≤ op ∧ op ≤ 4 ∧ Opx.kd op = 2) ∨ (5 ≤ op ∧ op ≤ 15 ∧ Opx.kd op = 3) ∨ (16 ≤ op ∧ op ≤ 17 ∧ Opx.kd op = 4) ∨ (18 ≤ op ∧ op ≤ 27 ∧ Opx.kd op = 5) ∨ (28 ≤ op ∧ op ≤ 36 ∧ Opx.kd op = 6) ∨ (37 ≤ op ∧ op ≤ 53 ∧ Opx.kd op = 7) ∨
      (54 ≤ op ∧ op ≤ 62 ∧ Opx.kd op = 8) ∨ (63 ≤ op ∧ op ≤ 64 ∧ Opx.kd op = 9) ∨ (65 ≤ op ∧ op ≤ 66 ∧ Opx.kd op = 10) ∨ (67 ≤ op ∧ Opx.kd op = 11) := by
    obtain ⟨k, hk⟩ : ∃ k, Opx.kd op = k := ⟨_, rfl⟩
    rw [hk]
    unfold Opx.kd at hk
    repeat' split at hk
    all_goals omega
  omega
/-- what may be, in plain words. -/
theorem fit_facts {op a b v t : Int} {L : List Int} {nb ne he : Bool} (h : fit op a b v t L nb ne he = true) :
    knd op ≠ 0 ∧ ((knd op = 4 ∨ knd op = 6 ∨ op = 12 ∨ op = 13 ∨ knd op = 7 ∨ knd op = 8) ∨ a = 0) ∧ ((knd op = 7 ∨ knd op = 8) ∨ b = 0) ∧ (knd op = 10 ∨ v = 0) ∧ (knd op = 2 ∨ (t = 0 ∧ nb = true)) ∧ (op = 14 ∨ L = []) ∧ (op = 14 → L ≠ []) ∧
    (op = 4 ∨ he = false) ∧ (he = true ∨ ne = true) ∧ num32 a = true ∧ num32 b = true ∧ (0 ≤ t ∧ t ≤ 2) ∧ (op = 65 → v ≤ 4294967295) ∧ L.all num32 = true := by
  simp only [fit, Bool.and_eq_true, Bool.or_eq_true, Bool.not_eq_true', beq_iff_eq, beq_eq_false_iff_ne, decide_eq_true_eq, List.isEmpty_iff, List.isEmpty_eq_false_iff, Bool.and_eq_false_iff, decide_eq_false_iff_not] at h
  obtain ⟨⟨⟨⟨⟨⟨⟨⟨⟨⟨⟨⟨⟨⟨h0, h1⟩, h2⟩, h3⟩, h4⟩, h5⟩, h6⟩, h7⟩, h8⟩, h9⟩, h10⟩, h11⟩, h12⟩, h13⟩, h14⟩ := h
  refine ⟨h0, ?_, h2, h3, h4, h5, ?_, h7, h8, h9, h10, ⟨h11, h12⟩, ?_, h14⟩
  · rcases h1 with h1 | h1
    · left
      rcases h1 with ((((h1 | h1) | h1) | h1) | h1) | h1 <;> simp [h1]
    · exact .inr h1
  · intro e
    rcases h6 with h6 | h6
    · exact absurd e h6
    · exact h6
  · intro e
    rcases h13 with h13 | h13
    · exact absurd e h13
    · omega
/-- an instruction that is no block. -/
theorem plain_read (op a b v t : Int) (L : List Int) (nb ne he : Bool) (hk : knd op ≠ 2) (hf : fit op a b v t L nb ne he = true) (hv : 0 ≤ v ∧ v ≤ 18446744073709551615) (hL : L.length ≤ 64) (more : List UInt8) (p : Nat) :
    rdP op (eP op a b v L ++ more) p = .ok (⟨op, a, b, v, t, L, .nil, .nil, false⟩, more, p + (eP op a b v L).length) ∧ nb = true ∧ ne = true ∧ he = false := by
  obtain ⟨h0, h1, h2, h3, h4, h5, h6, h7, h8, h9, h10, h11, h12, h13⟩ := fit_facts hf
  obtain ⟨d2, d4, d6, d7, d8, d9, d10⟩ := kd_iff op
  rw [← knd_kd h0] at d2 d4 d6 d7 d8 d9 d10
  obtain ⟨ht, hnb⟩ : t = 0 ∧ nb = true := by rcases h4 with h | h; exact absurd h hk; exact h
  have hhe : he = false := by
    rcases h7 with h | h
    · exact absurd (by omega) hk
    · exact h
  have hne : ne = true := by rcases h8 with h | h; rw [hhe] at h; cases h; exact h
  refine ⟨?_, hnb, hne, hhe⟩
  subst ht
  clear hf h4 h7 h8 h11 hnb hne hhe
  unfold rdP eP
  by_cases c1 : knd op = 7 ∨ knd op = 8
  · have hv0 : v = 0 := by omega
    have hL0 : L = [] := by rcases h5 with h | h; omega; exact h
    rw [if_pos c1, if_pos c1, List.append_assoc, eN_read a h9]
    simp only
    rw [eN_read b h10]
    simp only [List.length_append]
    rw [hv0, hL0, Nat.add_assoc]
  rw [if_neg c1, if_neg c1]
  have hb0 : b = 0 := by rcases h2 with h | h; exact absurd h c1; exact h
  subst hb0
  by_cases c2 : knd op = 9
  · have hv0 : v = 0 := by omega
    have ha0 : a = 0 := by omega
    have hL0 : L = [] := by rcases h5 with h | h; omega; exact h
    rw [if_pos c2, if_pos c2, hv0, ha0, hL0]
    simp [rdMust]
  rw [if_neg c2, if_neg c2]
  by_cases c3 : op = 65
  · have ha0 : a = 0 := by omega
    have hL0 : L = [] := by rcases h5 with h | h; omega; exact h
    obtain ⟨e1, e2⟩ := s32_read v hv.1 (h12 c3) more p
    rw [if_pos c3, if_pos c3, e1]
    simp only
    rw [e2, ha0, hL0]
  rw [if_neg c3, if_neg c3]
  by_cases c4 : op = 66
  · have ha0 : a = 0 := by omega
    have hL0 : L = [] := by rcases h5 with h | h; omega; exact h
    obtain ⟨e1, e2⟩ := s64_read v hv.1 hv.2 more p
    rw [if_pos c4, if_pos c4, e1]
    simp only
    rw [e2, ha0, hL0]
  rw [if_neg c4, if_neg c4]
  have hv0 : v = 0 := by omega
  subst hv0
  by_cases c5 : op = 14
  · have ha0 : a = 0 := by omega
    have hne := h6 c5
    have hpos : 0 < L.length := List.length_pos_iff.2 hne
    rw [if_pos c5, if_pos c5, List.append_assoc, eN_read _ ((num32_iff _).2 (by omega))]
    simp only
    rw [if_neg (by omega), show ((L.length : Int) - 1).toNat + 1 = L.length by omega, tab_read L h13]
    simp only [List.length_append]
    rw [ha0, Nat.add_assoc]
  rw [if_neg c5, if_neg c5]
  have hL0 : L = [] := by rcases h5 with h | h; exact absurd h c5; exact h
  subst hL0
  by_cases c6 : op = 17
  · rw [if_pos c6, if_pos c6, List.append_assoc, eN_read a h9]
    simp [rdMust, Nat.add_assoc]
  rw [if_neg c6, if_neg c6]
  by_cases c7 : knd op = 4 ∨ knd op = 6 ∨ op = 12 ∨ op = 13
  · rw [if_pos c7, if_pos c7, eN_read a h9]
  · have ha0 : a = 0 := by omega
    rw [if_neg c7, if_neg c7, ha0]
    simp
end Go.Proofs.YtbhniddgkdldlaaGreatDoor.Trx
