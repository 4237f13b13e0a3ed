/- A slice of instructions in memory that reads as a list of trees: what that means, what keeps it, its parts, and how an argument is opened to it. Plain definitions and lemmas, no condition. -/
import Derived.Test.YtbhniddgkdldlaaGreatDoorTreeMath
import Derived.Test.YtbhniddgkdldlaaGreatDoorArgs
import Derived.ChangeArms
import Derived.Deep.Fields
import Derived.Deep.Slices
import Derived.ChangeSame
set_option linter.unusedVariables false
set_option linter.unusedSimpArgs false
namespace Go.Proofs.YtbhniddgkdldlaaGreatDoor
open Go.RowKit Go.ChangeShapes Go.WideShapes Go.Deep Trx

/-- numbers as cells. -/
def n64s (zs : List Int) : List Value := zs.map (Value.int .i64)
@[simp] theorem n64s_length (zs : List Int) : (n64s zs).length = zs.length := by simp [n64s]
def inI (n : Int) : Prop := -9223372036854775808 ≤ n ∧ n ≤ 9223372036854775807
def inU (n : Int) : Prop := 0 ≤ n ∧ n ≤ 18446744073709551615

/-- where the three lists of an instruction lie. -/
structure Pl where
  AL : Option Addr
  cL : Nat
  Ab : Option Addr
  cb : Nat
  Ae : Option Addr
  ce : Nat
/-- the cells of an instruction. -/
def insC (n : Nd) (p : Pl) : Array Value :=
  #[.int .i64 n.op, .int .i64 n.a, .int .i64 n.b, .int .u64 n.v, .int .i64 n.t, .slice p.AL n.L.length p.cL, .slice p.Ab (len n.body) p.cb, .slice p.Ae (len n.els) p.ce, .bool n.he]
/-- the numbers of an instruction are of their kinds, and its list of numbers reads as it. -/
structure NdNum (w : World) (B : Nat) (n : Nd) (p : Pl) : Prop where
  op : inI n.op
  a : inI n.a
  b : inI n.b
  v : inU n.v
  t : inI n.t
  L : ∀ z ∈ n.L, inI z
  hL : n.L.length ≤ p.cL
  cL : p.cL ≤ maxLen
  sL : Sl w B p.AL (n64s n.L)
  hb : len n.body ≤ p.cb
  cb : p.cb ≤ maxLen
  he : len n.els ≤ p.ce
  ce : p.ce ≤ maxLen

/-- from a place on, instructions stand in memory. -/
def RdF (w : World) (B : Nat) : Fo → Nat → Nat → Prop
  | .nil, _, _ => True
  | .cons op a b v t L body els he next, blk, off =>
    (blk < B ∧ ∃ p : Pl, (∀ k, k < 9 → w.cell? ⟨blk, off + k, none⟩ = (insC ⟨op, a, b, v, t, L, body, els, he⟩ p)[k]?) ∧ NdNum w B ⟨op, a, b, v, t, L, body, els, he⟩ p ∧
      (body ≠ .nil → ∃ b' o', p.Ab = some ⟨b', o', none⟩ ∧ RdF w B body b' o') ∧ (els ≠ .nil → ∃ b' o', p.Ae = some ⟨b', o', none⟩ ∧ RdF w B els b' o')) ∧ RdF w B next blk (off + 9)
/-- a slice of instructions reads as a list of trees. -/
def RdS (w : World) (B : Nat) (A : Option Addr) (f : Fo) : Prop := f ≠ .nil → ∃ b o, A = some ⟨b, o, none⟩ ∧ RdF w B f b o
/-- what an instruction leads to reads as it. -/
structure NdOk (w : World) (B : Nat) (n : Nd) (p : Pl) : Prop where
  num : NdNum w B n p
  body : RdS w B p.Ab n.body
  els : RdS w B p.Ae n.els
structure NdAt (w : World) (B : Nat) (n : Nd) (p : Pl) (blk off : Nat) : Prop where
  lt : blk < B
  cells : ∀ k, k < 9 → w.cell? ⟨blk, off + k, none⟩ = (insC n p)[k]?
  ok : NdOk w B n p

theorem RdF.get {w : World} {B : Nat} {f : Fo} {blk off : Nat} (h : RdF w B f blk off) {i : Nat} {n : Nd} (hi : (nds f)[i]? = some n) : ∃ p, NdAt w B n p blk (off + i * 9) := by
  induction f generalizing off i with
  | nil => simp [nds] at hi
  | cons op a b v t L body els he next _ _ ih =>
    obtain ⟨⟨hlt, p, hc, hn, hb, he'⟩, hr⟩ := h
    cases i with
    | zero =>
      simp [nds] at hi
      subst hi
      exact ⟨p, hlt, hc, hn, hb, he'⟩
    | succ i =>
      simp [nds] at hi
      obtain ⟨p, hp⟩ := ih hr hi
      exact ⟨p, by rw [show off + (i + 1) * 9 = off + 9 + i * 9 by omega]; exact hp⟩
theorem RdF.mk {w : World} {B : Nat} {f : Fo} {blk off : Nat} (h : ∀ i n, (nds f)[i]? = some n → ∃ p, NdAt w B n p blk (off + i * 9)) : RdF w B f blk off := by
  induction f generalizing off with
  | nil => trivial
  | cons op a b v t L body els he next _ _ ih =>
    obtain ⟨p, hp⟩ := h 0 ⟨op, a, b, v, t, L, body, els, he⟩ (by simp [nds])
    refine ⟨⟨hp.lt, p, hp.cells, hp.ok.num, hp.ok.body, hp.ok.els⟩, ih fun i n hi => ?_⟩
    obtain ⟨q, hq⟩ := h (i + 1) n (by simpa [nds] using hi)
    exact ⟨q, by rw [show off + 9 + i * 9 = off + (i + 1) * 9 by omega]; exact hq⟩

theorem NdNum.keep {w w' : World} {B B' : Nat} {n : Nd} {p : Pl} (h : NdNum w B n p) (hB : B ≤ B') (hk : ∀ b o, b < B → w'.cell? ⟨b, o, none⟩ = w.cell? ⟨b, o, none⟩) : NdNum w' B' n p :=
  ⟨h.op, h.a, h.b, h.v, h.t, h.L, h.hL, h.cL, (h.sL.keep hk).more hB, h.hb, h.cb, h.he, h.ce⟩
theorem RdF.keep {w w' : World} {B B' : Nat} (hB : B ≤ B') (hk : ∀ b o, b < B → w'.cell? ⟨b, o, none⟩ = w.cell? ⟨b, o, none⟩) {f : Fo} {blk off : Nat} (h : RdF w B f blk off) : RdF w' B' f blk off := by
  induction f generalizing blk off with
  | nil => trivial
  | cons op a b v t L body els he next ih1 ih2 ih3 =>
    obtain ⟨⟨hlt, p, hc, hn, hb, he'⟩, hr⟩ := h
    refine ⟨⟨by omega, p, fun k hk9 => (hk _ _ hlt).trans (hc k hk9), hn.keep hB hk, fun hne => ?_, fun hne => ?_⟩, ih3 hr⟩
    · obtain ⟨b', o', e, h'⟩ := hb hne
      exact ⟨b', o', e, ih1 h'⟩
    · obtain ⟨b', o', e, h'⟩ := he' hne
      exact ⟨b', o', e, ih2 h'⟩
section
variable {w w' : World} {B B' : Nat} {A : Option Addr} {f : Fo} {n : Nd} {p : Pl} {blk off : Nat}
theorem RdS.keep (hB : B ≤ B') (hk : ∀ b o, b < B → w'.cell? ⟨b, o, none⟩ = w.cell? ⟨b, o, none⟩) (h : RdS w B A f) : RdS w' B' A f := fun hne => by
  obtain ⟨b, o, e, h'⟩ := h hne
  exact ⟨b, o, e, h'.keep hB hk⟩
theorem RdS.below (h : RdS w B A f) (hb : Below B w w') : RdS w' B A f := h.keep (Nat.le_refl _) fun b o hp => hb.cell (p := ⟨b, o, none⟩) hp
theorem RdS.later (h : RdS w w.heap.size A f) (hb : Below w.heap.size w w') : RdS w' w'.heap.size A f := h.keep hb.size fun b o hp => hb.cell (p := ⟨b, o, none⟩) hp
theorem NdOk.keep (hB : B ≤ B') (hk : ∀ b o, b < B → w'.cell? ⟨b, o, none⟩ = w.cell? ⟨b, o, none⟩) (h : NdOk w B n p) : NdOk w' B' n p := ⟨h.num.keep hB hk, h.body.keep hB hk, h.els.keep hB hk⟩
theorem NdOk.later (h : NdOk w w.heap.size n p) (hb : Below w.heap.size w w') : NdOk w' w'.heap.size n p := h.keep hb.size fun b o hp => hb.cell (p := ⟨b, o, none⟩) hp
theorem NdOk.below (h : NdOk w B n p) (hb : Below B w w') : NdOk w' B n p := h.keep (Nat.le_refl _) fun b o hp => hb.cell (p := ⟨b, o, none⟩) hp
theorem NdAt.keep (hB : B ≤ B') (hk : ∀ b o, b < B → w'.cell? ⟨b, o, none⟩ = w.cell? ⟨b, o, none⟩) (h : NdAt w B n p blk off) : NdAt w' B' n p blk off :=
  ⟨Nat.lt_of_lt_of_le h.lt hB, fun k hk9 => (hk _ _ h.lt).trans (h.cells k hk9), h.ok.keep hB hk⟩
theorem NdAt.below (h : NdAt w B n p blk off) (hb : Below B w w') : NdAt w' B n p blk off := h.keep (Nat.le_refl _) fun b o hp => hb.cell (p := ⟨b, o, none⟩) hp
theorem NdAt.nine (h : NdAt w B n p blk off) : w.cell? ⟨blk, off, none⟩ = some (.int .i64 n.op) ∧ w.cell? ⟨blk, off + 1, none⟩ = some (.int .i64 n.a) ∧ w.cell? ⟨blk, off + 2, none⟩ = some (.int .i64 n.b) ∧
    w.cell? ⟨blk, off + 3, none⟩ = some (.int .u64 n.v) ∧ w.cell? ⟨blk, off + 4, none⟩ = some (.int .i64 n.t) ∧ w.cell? ⟨blk, off + 5, none⟩ = some (.slice p.AL n.L.length p.cL) ∧
    w.cell? ⟨blk, off + 6, none⟩ = some (.slice p.Ab (len n.body) p.cb) ∧ w.cell? ⟨blk, off + 7, none⟩ = some (.slice p.Ae (len n.els) p.ce) ∧ w.cell? ⟨blk, off + 8, none⟩ = some (.bool n.he) :=
  ⟨h.cells 0 (by omega), h.cells 1 (by omega), h.cells 2 (by omega), h.cells 3 (by omega), h.cells 4 (by omega), h.cells 5 (by omega), h.cells 6 (by omega), h.cells 7 (by omega), h.cells 8 (by omega)⟩
theorem RdS.nil_ : RdS w B A .nil := fun h => absurd rfl h
theorem RdS.more (h : RdS w B A f) (hB : B ≤ B') : RdS w B' A f := h.keep hB fun _ _ _ => rfl
theorem NdOk.more (h : NdOk w B n p) (hB : B ≤ B') : NdOk w B' n p := h.keep hB fun _ _ _ => rfl
theorem RdS.drewN (h : RdS w B A f) (k : Nat) : RdS (w.drewN k) B A f := RdS.keep (w := w) (Nat.le_refl _) (fun _ _ _ => rfl) h
/-- the i-th instruction. -/
theorem RdS.at_ (h : RdS w B A f) {i : Nat} (hi : i < len f) : ∃ b o n p, A = some ⟨b, o, none⟩ ∧ (nds f)[i]? = some n ∧ NdAt w B n p b (o + i * 9) := by
  obtain ⟨b, o, e, h'⟩ := h (fun e => by subst e; simp at hi)
  obtain ⟨p, hp⟩ := h'.get (List.getElem?_eq_getElem (l := nds f) hi)
  exact ⟨b, o, _, p, e, List.getElem?_eq_getElem hi, hp⟩
theorem RdS.take (h : RdS w B A f) (k : Nat) : RdS w B A (ofN ((nds f).take k)) := fun hne => by
  obtain ⟨b, o, e, h'⟩ := h (fun e => hne (by subst e; simp [nds, ofN]))
  refine ⟨b, o, e, RdF.mk fun i n hi => ?_⟩
  rw [nds_ofN, List.getElem?_take] at hi
  split at hi
  · exact h'.get hi
  · cases hi
theorem RdS.drop (h : RdS w B A f) {k cap : Nat} (hc : len f ≤ cap) : RdS w B (if cap = k then A else A.map (·.add (k * 9))) (ofN ((nds f).drop k)) := fun hne => by
  have hk : k < len f := by
    rcases Nat.lt_or_ge k (len f) with h1 | h1
    · exact h1
    · exact absurd (by rw [List.drop_eq_nil_of_le h1]; rfl) hne
  obtain ⟨b, o, rfl, h'⟩ := h (fun e => by subst e; simp at hk)
  rw [if_neg (by omega)]
  refine ⟨b, o + k * 9, by by_cases e : k * 9 = 0 <;> simp [Addr.add, e], RdF.mk fun i n hi => ?_⟩
  rw [nds_ofN, List.getElem?_drop] at hi
  obtain ⟨p, hp⟩ := h'.get hi
  exact ⟨p, by rw [show o + k * 9 + i * 9 = o + (k + i) * 9 by omega]; exact hp⟩
end

/-! ### An argument opened -/
theorem inI_of {n : Int} (h : (Lit.int .i64 n).wf = true) : inI n := by have := bounds_i64 h; unfold inI; omega
theorem inU_of {n : Int} (h : (Lit.int .u64 n).wf = true) : inU n := by have := bounds_u64 h; unfold inU; omega
theorem list_of {α : Type} {Q : Nat → α → Prop} : ∀ m, (∀ i, i < m → ∃ a, Q i a) → ∃ l : List α, l.length = m ∧ ∀ i a, l[i]? = some a → Q i a
  | 0, _ => ⟨[], rfl, by simp⟩
  | m + 1, h => by
    obtain ⟨l, hl, hq⟩ := list_of m fun i hi => h i (by omega)
    obtain ⟨a, ha⟩ := h m (by omega)
    refine ⟨l ++ [a], by simp [hl], fun i b hi => ?_⟩
    rcases Nat.lt_or_ge i l.length with h1 | h1
    · rw [List.getElem?_append_left h1] at hi
      exact hq i b hi
    · have h2 : i = l.length := by
        rcases Nat.lt_or_ge i (l ++ [a]).length with h3 | h3
        · simp at h3; omega
        · rw [List.getElem?_eq_none h3] at hi; cases hi
      subst h2
      simp at hi
      subst hi
      rw [hl]
      exact ha
section
variable {H : Type} {enc : TypeId × Value → H} {w : World} {base : Nat} {spare : Nat → Bool} {held : Bool}
/-- the fields of a struct of one-cell fields. -/
theorem open_fields {P : Program} {e : TypeId} {fs : Array Field} {fuel : Nat} {cs : List Value} {x : DataW H × List MemPlace} (he : P.underlying e = some (.struct fs))
    (hone : oneCellFields P fs = true) (hC : P.cellsOf e = fs.size) (h : DataW.trod enc P w base spare held fuel e cs = some x) :
    ∃ n, fuel = n + 1 ∧ cs.length = fs.size ∧ ∀ (j : Nat) (f : Field), fs[j]? = some f → ∃ v y, cs[j]? = some v ∧ DataW.trod enc P w base spare held n f.type [v] = some y := by
  obtain ⟨ys, n', hn', hy, hlen, hyl, hf⟩ := DataW.trod_struct he h
  refine ⟨n', hn', hlen.trans hC, fun j f hj => ?_⟩
  obtain ⟨ho, hk⟩ := hone_of hone j f hj
  have hjl : j < fs.size := (Array.getElem?_eq_some_iff.1 hj).1
  have hlc := hlen.trans hC
  have h1 := hf j f hj
  rw [ho, hk] at h1
  have hone' : (cs.drop j).take 1 = [cs[j]'(by omega)] := by
    rw [List.drop_eq_getElem_cons (by omega)]
    rfl
  rw [hone'] at h1
  have hys : ys[j]? = some (ys[j]'(by omega)) := List.getElem?_eq_getElem (by omega)
  exact ⟨cs[j]'(by omega), _, List.getElem?_eq_getElem (by omega), h1.trans hys⟩
/-- a slice of numbers. -/
theorem open_n64 {fuel : Nat} {cs : List Value} {x : DataW H × List MemPlace} (h : DataW.trod enc Tryz.prog w base spare held fuel 47 cs = some x) :
    ∃ A zs c, cs = [.slice A zs.length c] ∧ zs.length ≤ c ∧ c ≤ maxLen ∧ (∀ z ∈ zs, inI z) ∧ Sl w w.heap.size A (n64s zs) := by
  rcases open_ints Tryz.underlying47 Tryz.underlying3 (by kernel_rfl) h with ⟨hcs, _⟩ | ⟨x, l, c, zs, hcs, _, hl, hm, hz, _, hcell, hwz⟩
  · exact ⟨none, [], 0, hcs, Nat.le_refl _, Nat.zero_le _, by simp, Sl.nil_⟩
  · have hz' : l ≤ zs.length := by rw [hz]; split <;> omega
    refine ⟨some x, zs.take l, c, by rw [hcs, List.length_take, Nat.min_eq_left hz'], by rw [List.length_take]; omega, hm, fun z hzm => inI_of (hwz z (List.mem_of_mem_take hzm)), ?_⟩
    exact ints_of_row (k := .i64) hz' hcell
theorem cells_at {a : Addr} {k n : Nat} {cs : List Value} (h : w.cells? base (a.add k) n = some cs) : cs.length = n ∧ ∀ j, j < n → w.cell? ((a.add k).add j) = cs[j]? := by
  obtain ⟨_, hcl, hat⟩ := World.cells?_some h
  exact ⟨hcl, hat⟩
theorem cell_block_lt {a : Addr} {v : Value} (h : w.cell? a = some v) : a.block < w.heap.size ∧ a.spot = none := ⟨World.block_lt_of_cell? _ _ h, World.cell?_spot h⟩
theorem add_at (b o k : Nat) : (⟨b, o, none⟩ : Addr).add k = ⟨b, o + k, none⟩ := by unfold Addr.add; split <;> simp_all
/-- one instruction, given that shorter readings of lists are opened. -/
theorem open_nd_of (N : Nat) (ih : ∀ m, m < N → ∀ (cs : List Value) (x : DataW H × List MemPlace), DataW.trod enc Tryz.prog w base spare held m 22 cs = some x → ∃ A f c, cs = [.slice A (len f) c] ∧ len f ≤ c ∧ c ≤ maxLen ∧ RdS w w.heap.size A f)
    {fuel : Nat} (hN : fuel ≤ N) {cs : List Value} {x : DataW H × List MemPlace} (h : DataW.trod enc Tryz.prog w base spare held fuel 49 cs = some x) :
    ∃ nd p, cs = (insC nd p).toList ∧ NdOk w w.heap.size nd p := by
  obtain ⟨n, hn, hl, hf⟩ := open_fields Tryz.underlying49 (by kernel_rfl) (by kernel_rfl) h
  have hl9 : cs.length = 9 := hl
  obtain ⟨v0, y0, c0, t0⟩ := hf 0 _ rfl
  obtain ⟨v1, y1, c1, t1⟩ := hf 1 _ rfl
  obtain ⟨v2, y2, c2, t2⟩ := hf 2 _ rfl
  obtain ⟨v3, y3, c3, t3⟩ := hf 3 _ rfl
  obtain ⟨v4, y4, c4, t4⟩ := hf 4 _ rfl
  obtain ⟨v5, y5, c5, t5⟩ := hf 5 _ rfl
  obtain ⟨v6, y6, c6, t6⟩ := hf 6 _ rfl
  obtain ⟨v7, y7, c7, t7⟩ := hf 7 _ rfl
  obtain ⟨v8, y8, c8, t8⟩ := hf 8 _ rfl
  clear hf hl
  obtain ⟨op, e0, -, w0⟩ := DataW.trod_int (k := .i64) Tryz.underlying3 t0
  obtain ⟨a, e1, -, w1⟩ := DataW.trod_int (k := .i64) Tryz.underlying3 t1
  obtain ⟨b, e2, -, w2⟩ := DataW.trod_int (k := .i64) Tryz.underlying3 t2
  obtain ⟨v, e3, -, w3⟩ := DataW.trod_int (k := .u64) Tryz.underlying46 t3
  obtain ⟨t, e4, -, w4⟩ := DataW.trod_int (k := .i64) Tryz.underlying3 t4
  obtain ⟨AL, zs, cL, e5, l5, m5, z5, s5⟩ := open_n64 t5
  obtain ⟨Ab, fb, cb, e6, l6, m6, s6⟩ := ih n (by omega) _ _ t6
  obtain ⟨Ae, fe, ce, e7, l7, m7, s7⟩ := ih n (by omega) _ _ t7
  obtain ⟨he, e8, -⟩ := DataW.trod_bool Tryz.underlying4 t8
  injection e0 with e0; injection e1 with e1; injection e2 with e2; injection e3 with e3; injection e4 with e4
  injection e5 with e5; injection e6 with e6; injection e7 with e7; injection e8 with e8
  subst e0 e1 e2 e3 e4 e5 e6 e7 e8
  refine ⟨⟨op, a, b, v, t, zs, fb, fe, he⟩, ⟨AL, cL, Ab, cb, Ae, ce⟩, ?_, ⟨inI_of w0, inI_of w1, inI_of w2, inU_of w3, inI_of w4, z5, l5, m5, s5, l6, m6, l7, m7⟩, s6, s7⟩
  match cs, hl9, c0, c1, c2, c3, c4, c5, c6, c7, c8 with
  | [_, _, _, _, _, _, _, _, _], _, c0, c1, c2, c3, c4, c5, c6, c7, c8 =>
    simp at c0 c1 c2 c3 c4 c5 c6 c7 c8
    subst c0 c1 c2 c3 c4 c5 c6 c7 c8
    rfl
/-- a slice of instructions. -/
theorem open_ins (fuel : Nat) : ∀ (cs : List Value) (x : DataW H × List MemPlace), DataW.trod enc Tryz.prog w base spare held fuel 22 cs = some x →
    ∃ A f c, cs = [.slice A (len f) c] ∧ len f ≤ c ∧ c ≤ maxLen ∧ RdS w w.heap.size A f := by
  induction fuel using Nat.strongRecOn with
  | ind fuel ih =>
    intro cs x h
    rcases DataW.trod_slice Tryz.underlying22 h with ⟨h0, -⟩ | ⟨a, l, cap, elems, rest, n, hn, hcs, -, hb, hl, hm, hlen, hel, -, -⟩
    · exact ⟨none, .nil, 0, h0, Nat.le_refl _, Nat.zero_le _, RdS.nil_⟩
    · have hC : Tryz.prog.cellsOf 49 = 9 := by kernel_rfl
      rw [hC] at hel
      have hone : ∀ i, i < l → ∃ nd : Nd, ∃ p, (∀ k, k < 9 → w.cell? ((a.add (i * 9)).add k) = (insC nd p)[k]?) ∧ NdOk w w.heap.size nd p := by
        intro i hi
        have h1 := hel i hi
        rw [List.getElem?_eq_getElem (by omega), Option.bind_eq_some_iff] at h1
        obtain ⟨cs', h2, h3⟩ := h1
        obtain ⟨nd, p, rfl, hok⟩ := open_nd_of fuel (fun m hm' cs x => ih m hm' cs x) (by omega) h3
        refine ⟨nd, p, fun k hk => ?_, hok⟩
        rw [(cells_at h2).2 k hk]
        simp
      obtain ⟨ns, hns, hq⟩ := list_of l hone
      refine ⟨some a, ofN ns, cap, by rw [hcs, len_ofN, hns], by rw [len_ofN, hns]; exact hl, hm, fun hne => ?_⟩
      have hpos : 0 < ns.length := by
        rcases Nat.eq_zero_or_pos ns.length with h0 | h0
        · rw [List.eq_nil_of_length_eq_zero h0] at hne
          exact absurd rfl hne
        · exact h0
      obtain ⟨p0, hc0, -⟩ := hq 0 _ (List.getElem?_eq_getElem hpos)
      obtain ⟨blk, off, spot⟩ := a
      have h00 := hc0 0 (by omega)
      have hs : spot = none := by
        have := (cell_block_lt (h00.trans rfl)).2
        simpa [Addr.add] using this
      subst hs
      refine ⟨blk, off, rfl, RdF.mk fun i nd hi => ?_⟩
      rw [nds_ofN] at hi
      obtain ⟨p, hc, hok⟩ := hq i nd hi
      refine ⟨p, ?_, fun k hk => ?_, hok⟩
      · have := (cell_block_lt ((hc 0 (by omega)).trans rfl)).1
        rw [add_at, add_at] at this
        exact this
      · rw [← hc k hk, add_at, add_at]
/-- one instruction. -/
theorem open_nd {fuel : Nat} {cs : List Value} {x : DataW H × List MemPlace} (h : DataW.trod enc Tryz.prog w base spare held fuel 49 cs = some x) :
    ∃ nd p, cs = (insC nd p).toList ∧ NdOk w w.heap.size nd p := open_nd_of fuel (fun m _ cs x => open_ins m cs x) (Nat.le_refl _) h
end
end Go.Proofs.YtbhniddgkdldlaaGreatDoor
