/- Plain mathematics of layer 5: lists of instructions as trees, how many they count, how deep they are, and whether they may be. No condition; nothing of the program. -/
import Derived.RowKit
import Derived.IntWalk
import Derived.Test.YtbhniddgkdldlaaGreatDoorOpMath
set_option linter.unusedVariables false
set_option linter.unusedSimpArgs false
namespace Go.Proofs.YtbhniddgkdldlaaGreatDoor.Trx
open Go.RowKit

/-- a list of instructions. -/
inductive Fo where
  | nil
  | cons (op a b v t : Int) (L : List Int) (body els : Fo) (he : Bool) (next : Fo)
deriving Inhabited
/-- an instruction. -/
structure Nd where
  op : Int
  a : Int
  b : Int
  v : Int
  t : Int
  L : List Int
  body : Fo
  els : Fo
  he : Bool
deriving Inhabited

def nds : Fo → List Nd
  | .nil => []
  | .cons op a b v t L body els he next => ⟨op, a, b, v, t, L, body, els, he⟩ :: nds next
def ofN : List Nd → Fo
  | [] => .nil
  | n :: r => .cons n.op n.a n.b n.v n.t n.L n.body n.els n.he (ofN r)
@[simp] theorem nds_ofN (l : List Nd) : nds (ofN l) = l := by
  induction l with
  | nil => rfl
  | cons n l ih => simp [ofN, nds, ih]
@[simp] theorem ofN_nds (f : Fo) : ofN (nds f) = f := by
  induction f with
  | nil => rfl
  | cons op a b v t L body els he next _ _ ih => simp [ofN, nds, ih]
def len (f : Fo) : Nat := (nds f).length
@[simp] theorem len_nil : len .nil = 0 := rfl
theorem len_zero {f : Fo} (h : len f = 0) : f = .nil := by
  cases f with
  | nil => rfl
  | cons => simp [len, nds] at h
theorem len_pos {f : Fo} (h : f ≠ .nil) : 0 < len f := by
  rcases Nat.eq_zero_or_pos (len f) with e | e
  · exact absurd (len_zero e) h
  · exact e
@[simp] theorem len_ofN (l : List Nd) : len (ofN l) = l.length := by simp [len]

/-- how many they count. -/
def cnt : Fo → Nat
  | .nil => 0
  | .cons _ _ _ _ _ _ body els _ next => 1 + cnt body + cnt els + cnt next
theorem cnt_snoc (l : List Nd) (n : Nd) : cnt (ofN (l ++ [n])) = cnt (ofN l) + 1 + cnt n.body + cnt n.els := by
  induction l with
  | nil => simp [ofN, cnt]
  | cons m l ih => simp only [List.cons_append, ofN, cnt, ih]; omega
theorem cnt_append (l m : List Nd) : cnt (ofN (l ++ m)) = cnt (ofN l) + cnt (ofN m) := by
  induction l with
  | nil => simp [ofN, cnt]
  | cons n l ih => simp only [List.cons_append, ofN, cnt, ih]; omega
theorem cnt_mem {f : Fo} {n : Nd} (h : n ∈ nds f) : cnt n.body < cnt f ∧ cnt n.els < cnt f := by
  induction f with
  | nil => simp [nds] at h
  | cons op a b v t L body els he next _ _ ih =>
    simp only [nds, List.mem_cons] at h
    rcases h with rfl | h
    · simp only [cnt]; omega
    · have := ih h
      simp only [cnt]; omega

def isBlk (op : Int) : Bool := decide (2 ≤ op) && decide (op ≤ 4)
/-- one more, as the machine reckons. -/
def up1 (x : Int) : Int := wrap64 (x + 1)
/-- how deep they are. -/
def dp : Fo → Int
  | .nil => 0
  | .cons op _ _ _ _ _ body els _ next => if isBlk op then max (max (up1 (dp body)) (up1 (dp els))) (dp next) else dp next
theorem dp_nonneg (f : Fo) : 0 ≤ dp f := by
  induction f with
  | nil => simp [dp]
  | cons op a b v t L body els he next _ _ ih => simp only [dp]; split <;> omega
theorem up1_le (x : Int) : up1 x ≤ 9223372036854775807 := by unfold up1 wrap64; omega
theorem up1_ge (x : Int) : -9223372036854775808 ≤ up1 x := by unfold up1 wrap64; omega
theorem dp_le (f : Fo) : dp f ≤ 9223372036854775807 := by
  induction f with
  | nil => simp [dp]
  | cons op a b v t L body els he next _ _ ih =>
    simp only [dp]
    have h1 := up1_le (dp body)
    have h2 := up1_le (dp els)
    split <;> omega
theorem dp_append (l m : List Nd) : dp (ofN (l ++ m)) = max (dp (ofN l)) (dp (ofN m)) := by
  induction l with
  | nil => have := dp_nonneg (ofN m); simp only [List.nil_append, ofN, dp]; omega
  | cons n l ih => simp only [List.cons_append, ofN, dp, ih]; split <;> omega
theorem dp_snoc_blk (l : List Nd) (n : Nd) (h : isBlk n.op = true) : dp (ofN (l ++ [n])) = max (max (dp (ofN l)) (up1 (dp n.body))) (up1 (dp n.els)) := by
  have := dp_nonneg (ofN l)
  rw [dp_append]
  simp only [ofN, dp, h, if_true]
  omega
theorem dp_snoc_not (l : List Nd) (n : Nd) (h : isBlk n.op = false) : dp (ofN (l ++ [n])) = dp (ofN l) := by
  have := dp_nonneg (ofN l)
  rw [dp_append]
  simp only [ofN, dp, h]
  simp
  omega

/-- the kind of an operation; 0: there is none. -/
def knd (op : Int) : Int := if (Opx.nm op).isEmpty then 0 else Opx.kd op
def num32 (n : Int) : Bool := decide (0 ≤ n) && decide (n ≤ 4294967295)
/-- whether an instruction may be, but for what stands in it. -/
def fit (op a b v t : Int) (L : List Int) (nb ne he : Bool) : Bool :=
  let k := knd op
  let pa := k == 4 || k == 6 || op == 12 || op == 13 || k == 7 || k == 8
  let pb := k == 7 || k == 8
  !(k == 0) && (pa || a == 0) && (pb || b == 0) && (k == 10 || v == 0) && (k == 2 || (t == 0 && nb)) && (op == 14 || L.isEmpty) && (!(op == 14) || !L.isEmpty)
  && (op == 4 || !he) && (he || ne) && num32 a && num32 b && decide (0 ≤ t) && decide (t ≤ 2) && !(op == 65 && decide (4294967295 < v)) && L.all num32
def isNil : Fo → Bool
  | .nil => true
  | _ => false
/-- whether they may be. -/
def may : Fo → Bool
  | .nil => true
  | .cons op a b v t L body els he next => (fit op a b v t L (isNil body) (isNil els) he && may body && may els) && may next
def mayN (n : Nd) : Bool := fit n.op n.a n.b n.v n.t n.L (isNil n.body) (isNil n.els) n.he && may n.body && may n.els
theorem may_nds (f : Fo) : may f = (nds f).all mayN := by
  induction f with
  | nil => rfl
  | cons op a b v t L body els he next _ _ ih => simp [may, nds, mayN, ih]
theorem may_ofN (l : List Nd) : may (ofN l) = l.all mayN := by rw [may_nds, nds_ofN]
theorem isNil_len (f : Fo) : isNil f = decide (len f = 0) := by cases f <;> simp [isNil, len, nds]

end Go.Proofs.YtbhniddgkdldlaaGreatDoor.Trx
