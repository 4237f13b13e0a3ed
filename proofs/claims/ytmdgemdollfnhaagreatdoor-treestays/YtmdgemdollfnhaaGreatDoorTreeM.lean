/- A module in memory: what it is made of, that it reads so, what keeps it, and how an argument is opened to it. Plain definitions and lemmas, no condition. -/
import Derived.Test.YtmdgemdollfnhaaGreatDoorTreeW
namespace Go.Proofs.YtmdgemdollfnhaaGreatDoor
open Go.RowKit Go.ChangeShapes Go.WideShapes Go.Deep Trx

/-- no list in it is too great for one piece of memory. -/
def Light : Fo → Prop
  | .nil => True
  | .cons _ _ _ _ _ L body els _ next => (L.length * 8 ≤ RB ∧ len body * 120 ≤ RB ∧ len els * 120 ≤ RB) ∧ Light body ∧ Light els ∧ Light next
structure LightN (n : Nd) : Prop where
  L : n.L.length * 8 ≤ RB
  b : len n.body * 120 ≤ RB
  e : len n.els * 120 ≤ RB
  body : Light n.body
  els : Light n.els
theorem Light.mem {f : Fo} (h : Light f) {n : Nd} (hn : n ∈ nds f) : LightN n := by
  induction f with
  | nil => simp [nds] at hn
  | cons op a b v t L body els he next _ _ ih =>
    simp only [nds, List.mem_cons] at hn
    rcases hn with rfl | hn
    · exact ⟨h.1.1, h.1.2.1, h.1.2.2, h.2.1, h.2.2.1⟩
    · exact ih h.2.2.2 hn
theorem Light.mk {l : List Nd} (h : ∀ n ∈ l, LightN n) : Light (ofN l) := by
  induction l with
  | nil => trivial
  | cons n l ih =>
    have h0 := h n List.mem_cons_self
    exact ⟨⟨h0.L, h0.b, h0.e⟩, h0.body, h0.els, ih fun m hm => h m (List.mem_cons_of_mem _ hm)⟩

/-- a list of numbers in memory. -/
structure IL where
  zs : List Int
  A : Option Addr
  c : Nat
@[reducible] def IL.v (l : IL) : Value := .slice l.A l.zs.length l.c
structure IL.ok (w : World) (B : Nat) (l : IL) : Prop where
  le : l.zs.length ≤ l.c
  c : l.c ≤ maxLen
  rb : l.zs.length * 8 ≤ RB
  inI : ∀ z ∈ l.zs, inI z
  sl : Sl w B l.A (n64s l.zs)
/-- bytes in memory. -/
structure BL where
  bs : List UInt8
  A : Option Addr
  c : Nat
@[reducible] def BL.v (l : BL) : Value := .slice l.A l.bs.length l.c
structure BL.ok (w : World) (B : Nat) (l : BL) : Prop where
  le : l.bs.length ≤ l.c
  c : l.c ≤ maxLen
  rb : l.bs.length ≤ RB
  sl : Sl w B l.A (u8s l.bs)
/-- a list of instructions in memory. -/
structure FL where
  f : Fo
  A : Option Addr
  c : Nat
@[reducible] def FL.v (l : FL) : Value := .slice l.A (len l.f) l.c
structure FL.ok (w : World) (B : Nat) (l : FL) : Prop where
  le : len l.f ≤ l.c
  c : l.c ≤ maxLen
  rb : len l.f * 120 ≤ RB
  light : Light l.f
  rd : RdS w B l.A l.f
/-- a string of whatever size a string has. -/
structure StrOk (s : ByteArray) : Prop where
  m : s.size ≤ maxLen
  rb : s.size ≤ RB

structure Ty where
  p : IL
  r : IL
def Ty.cells (t : Ty) : List Value := [t.p.v, t.r.v]
structure Ty.ok (w : World) (B : Nat) (t : Ty) : Prop where
  p : t.p.ok w B
  r : t.r.ok w B
structure Lm where
  mn : Int
  mx : Int
  hs : Bool
deriving DecidableEq
def Lm.cells (l : Lm) : List Value := [.int .i64 l.mn, .int .i64 l.mx, .bool l.hs]
structure Lm.ok (l : Lm) : Prop where
  mn : inI l.mn
  mx : inI l.mx
structure Im where
  md : ByteArray
  nm : ByteArray
  kd : Int
  ty : Int
  mu : Bool
  lm : Lm
deriving DecidableEq
def Im.cells (i : Im) : List Value := [.string i.md, .string i.nm, .int .i64 i.kd, .int .i64 i.ty, .bool i.mu, .int .i64 i.lm.mn, .int .i64 i.lm.mx, .bool i.lm.hs]
structure Im.ok (i : Im) : Prop where
  md : StrOk i.md
  nm : StrOk i.nm
  kd : inI i.kd
  ty : inI i.ty
  lm : i.lm.ok
structure Fn where
  ty : Int
  lo : IL
  bo : FL
def Fn.cells (f : Fn) : List Value := [.int .i64 f.ty, f.lo.v, f.bo.v]
structure Fn.ok (w : World) (B : Nat) (f : Fn) : Prop where
  ty : inI f.ty
  lo : f.lo.ok w B
  bo : f.bo.ok w B
/-- an instruction, with where its lists lie. -/
structure In where
  n : Nd
  p : Pl
@[reducible] def In.cells (i : In) : List Value := (insC i.n i.p).toList
structure In.ok (w : World) (B : Nat) (i : In) : Prop where
  nd : NdOk w B i.n i.p
  light : LightN i.n
structure Gl where
  ty : Int
  mu : Bool
  i : In
def Gl.cells (g : Gl) : List Value := .int .i64 g.ty :: .bool g.mu :: g.i.cells
structure Gl.ok (w : World) (B : Nat) (g : Gl) : Prop where
  ty : inI g.ty
  i : g.i.ok w B
structure Ex where
  nm : ByteArray
  kd : Int
  ix : Int
deriving DecidableEq
def Ex.cells (e : Ex) : List Value := [.string e.nm, .int .i64 e.kd, .int .i64 e.ix]
structure Ex.ok (e : Ex) : Prop where
  nm : StrOk e.nm
  kd : inI e.kd
  ix : inI e.ix
structure El where
  i : In
  fs : IL
def El.cells (e : El) : List Value := e.i.cells ++ [e.fs.v]
structure El.ok (w : World) (B : Nat) (e : El) : Prop where
  i : e.i.ok w B
  fs : e.fs.ok w B
structure Da where
  i : In
  bs : BL
def Da.cells (d : Da) : List Value := d.i.cells ++ [d.bs.v]
structure Da.ok (w : World) (B : Nat) (d : Da) : Prop where
  i : d.i.ok w B
  bs : d.bs.ok w B
structure Cu where
  nm : ByteArray
  bs : BL
def Cu.cells (c : Cu) : List Value := [.string c.nm, c.bs.v]
structure Cu.ok (w : World) (B : Nat) (c : Cu) : Prop where
  nm : StrOk c.nm
  bs : c.bs.ok w B

/-- a list of things in memory. -/
structure SL (α : Type) where
  l : List α
  A : Option Addr
  c : Nat
@[reducible] def SL.v {α : Type} (s : SL α) : Value := .slice s.A s.l.length s.c
structure SL.ok {α : Type} (cells : α → List Value) (q : World → Nat → α → Prop) (k by_ : Nat) (w : World) (B : Nat) (s : SL α) : Prop where
  le : s.l.length ≤ s.c
  c : s.c ≤ maxLen
  rb : s.l.length * by_ ≤ RB
  rows : RowsAt w B s.A k (s.l.map cells)
  all : ∀ a ∈ s.l, q w B a

/-- a module. -/
structure Mo where
  ty : SL Ty
  im : SL Im
  fn : SL Fn
  ta : SL Lm
  me : SL Lm
  gl : SL Gl
  ex : SL Ex
  st : Int
  el : SL El
  da : SL Da
  cu : SL Cu
@[reducible] def Mo.cells (m : Mo) : List Value := [m.ty.v, m.im.v, m.fn.v, m.ta.v, m.me.v, m.gl.v, m.ex.v, .int .i64 m.st, m.el.v, m.da.v, m.cu.v]
structure Mo.ok (w : World) (B : Nat) (m : Mo) : Prop where
  ty : m.ty.ok Ty.cells Ty.ok 2 48 w B
  im : m.im.ok Im.cells (fun _ _ => Im.ok) 8 80 w B
  fn : m.fn.ok Fn.cells Fn.ok 3 56 w B
  ta : m.ta.ok Lm.cells (fun _ _ => Lm.ok) 3 24 w B
  me : m.me.ok Lm.cells (fun _ _ => Lm.ok) 3 24 w B
  gl : m.gl.ok Gl.cells Gl.ok 11 136 w B
  ex : m.ex.ok Ex.cells (fun _ _ => Ex.ok) 3 32 w B
  st : inI m.st
  el : m.el.ok El.cells El.ok 10 144 w B
  da : m.da.ok Da.cells Da.ok 10 144 w B
  cu : m.cu.ok Cu.cells Cu.ok 2 40 w B

section
variable {w w' : World} {B B' : Nat}
def Kp (w w' : World) (B : Nat) : Prop := ∀ b o, b < B → w'.cell? ⟨b, o, none⟩ = w.cell? ⟨b, o, none⟩
theorem Below.kp (h : Below B w w') : Kp w w' B := fun b o hp => h.cell (p := ⟨b, o, none⟩) hp
theorem IL.ok.keep {l : IL} (h : l.ok w B) (hB : B ≤ B') (hk : Kp w w' B) : l.ok w' B' := ⟨h.le, h.c, h.rb, h.inI, (h.sl.keep hk).more hB⟩
theorem BL.ok.keep {l : BL} (h : l.ok w B) (hB : B ≤ B') (hk : Kp w w' B) : l.ok w' B' := ⟨h.le, h.c, h.rb, (h.sl.keep hk).more hB⟩
theorem FL.ok.keep {l : FL} (h : l.ok w B) (hB : B ≤ B') (hk : Kp w w' B) : l.ok w' B' := ⟨h.le, h.c, h.rb, h.light, h.rd.keep hB hk⟩
theorem In.ok.keep {l : In} (h : l.ok w B) (hB : B ≤ B') (hk : Kp w w' B) : l.ok w' B' := ⟨h.nd.keep hB hk, h.light⟩
theorem Ty.ok.keep {l : Ty} (h : l.ok w B) (hB : B ≤ B') (hk : Kp w w' B) : l.ok w' B' := ⟨h.p.keep hB hk, h.r.keep hB hk⟩
theorem Fn.ok.keep {l : Fn} (h : l.ok w B) (hB : B ≤ B') (hk : Kp w w' B) : l.ok w' B' := ⟨h.ty, h.lo.keep hB hk, h.bo.keep hB hk⟩
theorem Gl.ok.keep {l : Gl} (h : l.ok w B) (hB : B ≤ B') (hk : Kp w w' B) : l.ok w' B' := ⟨h.ty, h.i.keep hB hk⟩
theorem El.ok.keep {l : El} (h : l.ok w B) (hB : B ≤ B') (hk : Kp w w' B) : l.ok w' B' := ⟨h.i.keep hB hk, h.fs.keep hB hk⟩
theorem Da.ok.keep {l : Da} (h : l.ok w B) (hB : B ≤ B') (hk : Kp w w' B) : l.ok w' B' := ⟨h.i.keep hB hk, h.bs.keep hB hk⟩
theorem Cu.ok.keep {l : Cu} (h : l.ok w B) (hB : B ≤ B') (hk : Kp w w' B) : l.ok w' B' := ⟨h.nm, h.bs.keep hB hk⟩
theorem SL.ok.keep {α : Type} {cells : α → List Value} {ok : World → Nat → α → Prop} {k y : Nat} {s : SL α} (h : s.ok cells ok k y w B) (hB : B ≤ B') (hk : Kp w w' B) (ho : ∀ a, ok w B a → ok w' B' a) : s.ok cells ok k y w' B' :=
  ⟨h.le, h.c, h.rb, h.rows.keep hB hk, fun a ha => ho a (h.all a ha)⟩
theorem Mo.ok.keep {m : Mo} (h : m.ok w B) (hB : B ≤ B') (hk : Kp w w' B) : m.ok w' B' :=
  ⟨h.ty.keep hB hk fun _ h => h.keep hB hk, h.im.keep hB hk fun _ h => h, h.fn.keep hB hk fun _ h => h.keep hB hk, h.ta.keep hB hk fun _ h => h, h.me.keep hB hk fun _ h => h, h.gl.keep hB hk fun _ h => h.keep hB hk,
    h.ex.keep hB hk fun _ h => h, h.st, h.el.keep hB hk fun _ h => h.keep hB hk, h.da.keep hB hk fun _ h => h.keep hB hk, h.cu.keep hB hk fun _ h => h.keep hB hk⟩
theorem Mo.ok.below {m : Mo} (h : m.ok w w.heap.size) (hb : Below w.heap.size w w') : m.ok w' w'.heap.size := h.keep hb.size (Below.kp hb)
end

section
variable {H : Type} {enc : TypeId × Value → H} {w : World} {base : Nat} {spare : Nat → Bool} {held : Bool}
theorem fld {P : Program} {fs : Array Field} {n : Nat} {cs : List Value} (hf : ∀ (i : Nat) (f : Field), fs[i]? = some f → ∃ y, DataW.trod enc P w base spare held n f.type ((cs.drop f.offset).take (P.cellsOf f.type)) = some y ∧ Lw P f.type y.1)
    (i : Nat) (t : TypeId) (o k : Nat) (h : (fs[i]?).map (fun f => (f.type, f.offset)) = some (t, o)) (hk : P.cellsOf t = k) : ∃ y, DataW.trod enc P w base spare held n t ((cs.drop o).take k) = some y ∧ Lw P t y.1 := by
  obtain ⟨f, hf1, hf2⟩ := Option.map_eq_some_iff.1 h
  simp only [Prod.mk.injEq] at hf2
  obtain ⟨rfl, rfl⟩ := hf2
  subst hk
  exact hf i f hf1
theorem take_one {cs : List Value} {j : Nat} (h : j < cs.length) : (cs.drop j).take 1 = [cs[j]] := by
  rw [List.drop_eq_getElem_cons h]; rfl
theorem open_str {fuel : Nat} {cs : List Value} {x : DataW H × List MemPlace} (h : DataW.trod enc Tryz.prog w base spare held fuel 9 cs = some x) (hw : Lw Tryz.prog 9 x.1) : ∃ s : ByteArray, cs = [.string s] ∧ StrOk s := by
  obtain ⟨s, rfl, hx, hm⟩ := DataW.trod_string Tryz.underlying9 h
  refine ⟨s, rfl, hm, ?_⟩
  have := hw s.size (by rw [hx]; simp [DataW.weights])
  exact this
theorem open_int {fuel : Nat} {cs : List Value} {x : DataW H × List MemPlace} (h : DataW.trod enc Tryz.prog w base spare held fuel 3 cs = some x) : ∃ n, cs = [.int .i64 n] ∧ inI n := by
  obtain ⟨n, rfl, -, hw⟩ := DataW.trod_int (k := .i64) Tryz.underlying3 h
  exact ⟨n, rfl, inI_of hw⟩
theorem open_boo {fuel : Nat} {cs : List Value} {x : DataW H × List MemPlace} (h : DataW.trod enc Tryz.prog w base spare held fuel 4 cs = some x) : ∃ b, cs = [.bool b] := by
  obtain ⟨b, rfl, -⟩ := DataW.trod_bool Tryz.underlying4 h
  exact ⟨b, rfl⟩
theorem slice_lw {t e : TypeId} {fuel : Nat} {P : Program} {cs : List Value} {x : DataW H × List MemPlace} {A : Option Addr} {n c : Nat} (ht : P.underlying t = some (.slice e)) (h : DataW.trod enc P w base spare held fuel t cs = some x) (hcs : cs = [.slice A n c]) (hw : Lw P t x.1) : n * P.bytesOf e ≤ RB := by
  rcases DataW.trod_slice ht h with ⟨h0, -⟩ | ⟨a, l, cap, elems, rest, m, hn, hcs', hx, hb, hl, hm, hlen', hel, -, -⟩
  · rw [h0] at hcs
    simp at hcs
    simp [← hcs.2.1]
  · rw [hcs'] at hcs
    simp at hcs
    obtain ⟨-, rfl, -⟩ := hcs
    have := hw ((l + rest.length) * P.bytesOf e) (by rw [hx]; show _ ∈ DataW.weights P t (.slice (elems.map (·.1)) (rest.map (·.1))); rw [DataW.weights, ht]; simp [hlen'])
    exact Nat.le_trans (Nat.mul_le_mul_right _ (Nat.le_add_right _ _)) this
theorem open_il {fuel : Nat} {cs : List Value} {x : DataW H × List MemPlace} (h : DataW.trod enc Tryz.prog w base spare held fuel 36 cs = some x) (hw : Lw Tryz.prog 36 x.1) : ∃ l : IL, cs = [l.v] ∧ l.ok w w.heap.size := by
  obtain ⟨A, zs, c, hcs, hl, hm, hz, hs⟩ := open_n64 h
  exact ⟨⟨zs, A, c⟩, hcs, hl, hm, by have := slice_lw Tryz.underlying36 h hcs hw; rwa [show Tryz.prog.bytesOf 3 = 8 by kernel_rfl] at this, hz, hs⟩
theorem open_bl {fuel : Nat} {cs : List Value} {x : DataW H × List MemPlace} (h : DataW.trod enc Tryz.prog w base spare held fuel 59 cs = some x) (hw : Lw Tryz.prog 59 x.1) : ∃ l : BL, cs = [l.v] ∧ l.ok w w.heap.size := by
  have h' := h
  rcases open_ints Tryz.underlying59 Tryz.underlying5 (by kernel_rfl) h with ⟨hcs, _⟩ | ⟨x, l, c, zs, hcs, _, hl, hm, hz, _, hcell, hwz⟩
  · exact ⟨⟨[], none, 0⟩, hcs, Nat.le_refl _, Nat.zero_le _, Nat.zero_le _, Sl.nil_⟩
  · have hz' : l ≤ zs.length := by rw [hz]; split <;> omega
    obtain ⟨bs, hb1, hb2⟩ := bytes_of_row (len := l) hz' hcell hwz
    have hrb := slice_lw Tryz.underlying59 h' hcs hw
    rw [show Tryz.prog.bytesOf 5 = 1 by kernel_rfl] at hrb
    exact ⟨⟨bs, some x, c⟩, by rw [hcs, ← hb1], by rw [hb1]; exact hl, hm, by show bs.length ≤ RB; omega, hb2⟩
/-- one instruction, and what it weighs. -/
theorem open_in_of (N : Nat) (ih : ∀ m, m < N → ∀ (cs : List Value) (x : DataW H × List MemPlace), DataW.trod enc Tryz.prog w base spare held m 46 cs = some x → Lw Tryz.prog 46 x.1 → ∃ l : FL, cs = [l.v] ∧ l.ok w w.heap.size)
    {fuel : Nat} (hN : fuel ≤ N) {cs : List Value} {x : DataW H × List MemPlace} (h : DataW.trod enc Tryz.prog w base spare held fuel 48 cs = some x) (hw : Lw Tryz.prog 48 x.1) :
    ∃ i : In, cs = i.cells ∧ i.ok w w.heap.size := by
  obtain ⟨n, hn, hl, hf⟩ := open_struct Tryz.underlying48 h hw
  have hl9 : cs.length = 9 := hl.trans (by kernel_rfl)
  obtain ⟨y0, t0, -⟩ := fld hf 0 3 0 1 rfl (by kernel_rfl)
  obtain ⟨y1, t1, -⟩ := fld hf 1 3 1 1 rfl (by kernel_rfl)
  obtain ⟨y2, t2, -⟩ := fld hf 2 3 2 1 rfl (by kernel_rfl)
  obtain ⟨y3, t3, -⟩ := fld hf 3 45 3 1 rfl (by kernel_rfl)
  obtain ⟨y4, t4, -⟩ := fld hf 4 3 4 1 rfl (by kernel_rfl)
  obtain ⟨y5, t5, u5⟩ := fld hf 5 36 5 1 rfl (by kernel_rfl)
  obtain ⟨y6, t6, u6⟩ := fld hf 6 46 6 1 rfl (by kernel_rfl)
  obtain ⟨y7, t7, u7⟩ := fld hf 7 46 7 1 rfl (by kernel_rfl)
  obtain ⟨y8, t8, -⟩ := fld hf 8 4 8 1 rfl (by kernel_rfl)
  clear hf hl
  match cs, hl9 with
  | [c0, c1, c2, c3, c4, c5, c6, c7, c8], _ =>
    obtain ⟨op, e0, w0⟩ := open_int t0
    obtain ⟨a, e1, w1⟩ := open_int t1
    obtain ⟨b, e2, w2⟩ := open_int t2
    obtain ⟨v, e3, -, w3⟩ := DataW.trod_int (k := .u64) Tryz.underlying45 t3
    obtain ⟨t, e4, w4⟩ := open_int t4
    obtain ⟨L, e5, o5⟩ := open_il t5 u5
    obtain ⟨fb, e6, o6⟩ := ih n (by omega) _ _ t6 u6
    obtain ⟨fe, e7, o7⟩ := ih n (by omega) _ _ t7 u7
    obtain ⟨he, e8⟩ := open_boo t8
    simp at e0 e1 e2 e3 e4 e5 e6 e7 e8
    subst e0 e1 e2 e3 e4 e5 e6 e7 e8
    exact ⟨⟨⟨op, a, b, v, t, L.zs, fb.f, fe.f, he⟩, ⟨L.A, L.c, fb.A, fb.c, fe.A, fe.c⟩⟩, rfl, ⟨⟨w0, w1, w2, inU_of w3, w4, o5.inI, o5.le, o5.c, o5.sl, o6.le, o6.c, o7.le, o7.c⟩, o6.rd, o7.rd⟩, ⟨o5.rb, o6.rb, o7.rb, o6.light, o7.light⟩⟩
theorem open_fl (fuel : Nat) : ∀ (cs : List Value) (x : DataW H × List MemPlace), DataW.trod enc Tryz.prog w base spare held fuel 46 cs = some x → Lw Tryz.prog 46 x.1 → ∃ l : FL, cs = [l.v] ∧ l.ok w w.heap.size := by
  induction fuel using Nat.strongRecOn with
  | ind fuel ih =>
    intro cs x h hw
    obtain ⟨A, l, c, hcs, hl, hm, hrb, hrows, hall⟩ := open_rows In.cells (fun i => i.ok w w.heap.size) 9 Tryz.underlying46 (by kernel_rfl) (by omega) (fun n cs x hn h hw => open_in_of fuel (fun m hm cs x => ih m hm cs x) (by omega) h hw) (fun _ => rfl) h hw
    rw [show Tryz.prog.bytesOf 48 = 120 by kernel_rfl] at hrb
    have hlen : len (ofN (l.map (·.n))) = l.length := by simp
    refine ⟨⟨ofN (l.map (·.n)), A, c⟩, by rw [hcs]; show _ = [Value.slice A (len (ofN (l.map (·.n)))) c]; rw [hlen], by rw [hlen]; exact hl, hm, by rw [hlen]; exact hrb, Light.mk fun n hn => ?_, fun hne => ?_⟩
    · obtain ⟨i, hi, rfl⟩ := List.mem_map.1 hn
      exact (hall i hi).light
    · obtain ⟨b, o, e, hb, hc⟩ := hrows (fun e => hne (by
        have : l = [] := by simpa using e
        subst this; rfl))
      refine ⟨b, o, e, RdF.mk fun i n hi => ?_⟩
      rw [nds_ofN, List.getElem?_map] at hi
      obtain ⟨v, hv, rfl⟩ := Option.map_eq_some_iff.1 hi
      refine ⟨v.p, hb, fun k hk => ?_, (hall v (List.mem_of_getElem? hv)).nd⟩
      rw [hc i v.cells (by rw [List.getElem?_map, hv]; rfl) k hk]
      simp
theorem open_in {fuel : Nat} {cs : List Value} {x : DataW H × List MemPlace} (h : DataW.trod enc Tryz.prog w base spare held fuel 48 cs = some x) (hw : Lw Tryz.prog 48 x.1) : ∃ i : In, cs = i.cells ∧ i.ok w w.heap.size :=
  open_in_of fuel (fun m _ cs x => open_fl m cs x) (Nat.le_refl _) h hw
theorem open_lm {fuel : Nat} {cs : List Value} {x : DataW H × List MemPlace} (h : DataW.trod enc Tryz.prog w base spare held fuel 74 cs = some x) (hw : Lw Tryz.prog 74 x.1) : ∃ l : Lm, cs = l.cells ∧ l.ok := by
  obtain ⟨n, hn, hl, hf⟩ := open_struct Tryz.underlying74 h hw
  have hl' : cs.length = 3 := hl.trans (by kernel_rfl)
  obtain ⟨y0, t0, -⟩ := fld hf 0 3 0 1 rfl (by kernel_rfl)
  obtain ⟨y1, t1, -⟩ := fld hf 1 3 1 1 rfl (by kernel_rfl)
  obtain ⟨y2, t2, -⟩ := fld hf 2 4 2 1 rfl (by kernel_rfl)
  clear hf hl h
  match cs, hl' with
  | [c0, c1, c2], _ =>
    obtain ⟨a, e0, w0⟩ := open_int t0
    obtain ⟨b, e1, w1⟩ := open_int t1
    obtain ⟨c, e2⟩ := open_boo t2
    simp at e0 e1 e2
    subst e0 e1 e2
    exact ⟨⟨a, b, c⟩, rfl, w0, w1⟩
theorem open_ty {fuel : Nat} {cs : List Value} {x : DataW H × List MemPlace} (h : DataW.trod enc Tryz.prog w base spare held fuel 38 cs = some x) (hw : Lw Tryz.prog 38 x.1) : ∃ l : Ty, cs = l.cells ∧ l.ok w w.heap.size := by
  obtain ⟨n, hn, hl, hf⟩ := open_struct Tryz.underlying38 h hw
  have hl' : cs.length = 2 := hl.trans (by kernel_rfl)
  obtain ⟨y0, t0, u0⟩ := fld hf 0 36 0 1 rfl (by kernel_rfl)
  obtain ⟨y1, t1, u1⟩ := fld hf 1 36 1 1 rfl (by kernel_rfl)
  clear hf hl h
  match cs, hl' with
  | [c0, c1], _ =>
    obtain ⟨a, e0, w0⟩ := open_il t0 u0
    obtain ⟨b, e1, w1⟩ := open_il t1 u1
    simp at e0 e1
    subst e0 e1
    exact ⟨⟨a, b⟩, rfl, w0, w1⟩
theorem open_im {fuel : Nat} {cs : List Value} {x : DataW H × List MemPlace} (h : DataW.trod enc Tryz.prog w base spare held fuel 76 cs = some x) (hw : Lw Tryz.prog 76 x.1) : ∃ l : Im, cs = l.cells ∧ l.ok := by
  obtain ⟨n, hn, hl, hf⟩ := open_struct Tryz.underlying76 h hw
  have hl' : cs.length = 8 := hl.trans (by kernel_rfl)
  obtain ⟨y0, t0, u0⟩ := fld hf 0 9 0 1 rfl (by kernel_rfl)
  obtain ⟨y1, t1, u1⟩ := fld hf 1 9 1 1 rfl (by kernel_rfl)
  obtain ⟨y2, t2, -⟩ := fld hf 2 3 2 1 rfl (by kernel_rfl)
  obtain ⟨y3, t3, -⟩ := fld hf 3 3 3 1 rfl (by kernel_rfl)
  obtain ⟨y4, t4, -⟩ := fld hf 4 4 4 1 rfl (by kernel_rfl)
  obtain ⟨y5, t5, u5⟩ := fld hf 5 74 5 3 rfl (by kernel_rfl)
  clear hf hl h
  match cs, hl' with
  | [c0, c1, c2, c3, c4, c5, c6, c7], _ =>
    obtain ⟨a0, e0, w0⟩ := open_str t0 u0
    obtain ⟨a1, e1, w1⟩ := open_str t1 u1
    obtain ⟨a2, e2, w2⟩ := open_int t2
    obtain ⟨a3, e3, w3⟩ := open_int t3
    obtain ⟨a4, e4⟩ := open_boo t4
    obtain ⟨a5, e5, w5⟩ := open_lm t5 u5
    simp [Lm.cells] at e0 e1 e2 e3 e4 e5
    obtain ⟨e5, e6, e7⟩ := e5
    subst e0 e1 e2 e3 e4 e5 e6 e7
    exact ⟨⟨a0, a1, a2, a3, a4, a5⟩, rfl, w0, w1, w2, w3, w5⟩
theorem open_fn {fuel : Nat} {cs : List Value} {x : DataW H × List MemPlace} (h : DataW.trod enc Tryz.prog w base spare held fuel 53 cs = some x) (hw : Lw Tryz.prog 53 x.1) : ∃ l : Fn, cs = l.cells ∧ l.ok w w.heap.size := by
  obtain ⟨n, hn, hl, hf⟩ := open_struct Tryz.underlying53 h hw
  have hl' : cs.length = 3 := hl.trans (by kernel_rfl)
  obtain ⟨y0, t0, -⟩ := fld hf 0 3 0 1 rfl (by kernel_rfl)
  obtain ⟨y1, t1, u1⟩ := fld hf 1 36 1 1 rfl (by kernel_rfl)
  obtain ⟨y2, t2, u2⟩ := fld hf 2 46 2 1 rfl (by kernel_rfl)
  clear hf hl h
  match cs, hl' with
  | [c0, c1, c2], _ =>
    obtain ⟨a0, e0, w0⟩ := open_int t0
    obtain ⟨a1, e1, w1⟩ := open_il t1 u1
    obtain ⟨a2, e2, w2⟩ := open_fl n _ _ t2 u2
    simp at e0 e1 e2
    subst e0 e1 e2
    exact ⟨⟨a0, a1, a2⟩, rfl, w0, w1, w2⟩
theorem open_gl {fuel : Nat} {cs : List Value} {x : DataW H × List MemPlace} (h : DataW.trod enc Tryz.prog w base spare held fuel 56 cs = some x) (hw : Lw Tryz.prog 56 x.1) : ∃ l : Gl, cs = l.cells ∧ l.ok w w.heap.size := by
  obtain ⟨n, hn, hl, hf⟩ := open_struct Tryz.underlying56 h hw
  have hl' : cs.length = 11 := hl.trans (by kernel_rfl)
  obtain ⟨y0, t0, -⟩ := fld hf 0 3 0 1 rfl (by kernel_rfl)
  obtain ⟨y1, t1, -⟩ := fld hf 1 4 1 1 rfl (by kernel_rfl)
  obtain ⟨y2, t2, u2⟩ := fld hf 2 48 2 9 rfl (by kernel_rfl)
  clear hf hl h
  match cs, hl' with
  | [c0, c1, d0, d1, d2, d3, d4, d5, d6, d7, d8], _ =>
    obtain ⟨a0, e0, w0⟩ := open_int t0
    obtain ⟨a1, e1⟩ := open_boo t1
    obtain ⟨a2, e2, w2⟩ := open_in t2 u2
    simp at e0 e1
    subst e0 e1
    exact ⟨⟨a0, a1, a2⟩, by rw [Gl.cells, ← e2]; rfl, w0, w2⟩
theorem open_ex {fuel : Nat} {cs : List Value} {x : DataW H × List MemPlace} (h : DataW.trod enc Tryz.prog w base spare held fuel 84 cs = some x) (hw : Lw Tryz.prog 84 x.1) : ∃ l : Ex, cs = l.cells ∧ l.ok := by
  obtain ⟨n, hn, hl, hf⟩ := open_struct Tryz.underlying84 h hw
  have hl' : cs.length = 3 := hl.trans (by kernel_rfl)
  obtain ⟨y0, t0, u0⟩ := fld hf 0 9 0 1 rfl (by kernel_rfl)
  obtain ⟨y1, t1, -⟩ := fld hf 1 3 1 1 rfl (by kernel_rfl)
  obtain ⟨y2, t2, -⟩ := fld hf 2 3 2 1 rfl (by kernel_rfl)
  clear hf hl h
  match cs, hl' with
  | [c0, c1, c2], _ =>
    obtain ⟨a0, e0, w0⟩ := open_str t0 u0
    obtain ⟨a1, e1, w1⟩ := open_int t1
    obtain ⟨a2, e2, w2⟩ := open_int t2
    simp at e0 e1 e2
    subst e0 e1 e2
    exact ⟨⟨a0, a1, a2⟩, rfl, w0, w1, w2⟩
theorem open_el {fuel : Nat} {cs : List Value} {x : DataW H × List MemPlace} (h : DataW.trod enc Tryz.prog w base spare held fuel 58 cs = some x) (hw : Lw Tryz.prog 58 x.1) : ∃ l : El, cs = l.cells ∧ l.ok w w.heap.size := by
  obtain ⟨n, hn, hl, hf⟩ := open_struct Tryz.underlying58 h hw
  have hl' : cs.length = 10 := hl.trans (by kernel_rfl)
  obtain ⟨y0, t0, u0⟩ := fld hf 0 48 0 9 rfl (by kernel_rfl)
  obtain ⟨y1, t1, u1⟩ := fld hf 1 36 9 1 rfl (by kernel_rfl)
  clear hf hl h
  match cs, hl' with
  | [d0, d1, d2, d3, d4, d5, d6, d7, d8, c1], _ =>
    obtain ⟨a0, e0, w0⟩ := open_in t0 u0
    obtain ⟨a1, e1, w1⟩ := open_il t1 u1
    simp at e1
    subst e1
    exact ⟨⟨a0, a1⟩, by rw [El.cells, ← e0]; rfl, w0, w1⟩
theorem open_da {fuel : Nat} {cs : List Value} {x : DataW H × List MemPlace} (h : DataW.trod enc Tryz.prog w base spare held fuel 61 cs = some x) (hw : Lw Tryz.prog 61 x.1) : ∃ l : Da, cs = l.cells ∧ l.ok w w.heap.size := by
  obtain ⟨n, hn, hl, hf⟩ := open_struct Tryz.underlying61 h hw
  have hl' : cs.length = 10 := hl.trans (by kernel_rfl)
  obtain ⟨y0, t0, u0⟩ := fld hf 0 48 0 9 rfl (by kernel_rfl)
  obtain ⟨y1, t1, u1⟩ := fld hf 1 59 9 1 rfl (by kernel_rfl)
  clear hf hl h
  match cs, hl' with
  | [d0, d1, d2, d3, d4, d5, d6, d7, d8, c1], _ =>
    obtain ⟨a0, e0, w0⟩ := open_in t0 u0
    obtain ⟨a1, e1, w1⟩ := open_bl t1 u1
    simp at e1
    subst e1
    exact ⟨⟨a0, a1⟩, by rw [Da.cells, ← e0]; rfl, w0, w1⟩
theorem open_cu {fuel : Nat} {cs : List Value} {x : DataW H × List MemPlace} (h : DataW.trod enc Tryz.prog w base spare held fuel 64 cs = some x) (hw : Lw Tryz.prog 64 x.1) : ∃ l : Cu, cs = l.cells ∧ l.ok w w.heap.size := by
  obtain ⟨n, hn, hl, hf⟩ := open_struct Tryz.underlying64 h hw
  have hl' : cs.length = 2 := hl.trans (by kernel_rfl)
  obtain ⟨y0, t0, u0⟩ := fld hf 0 9 0 1 rfl (by kernel_rfl)
  obtain ⟨y1, t1, u1⟩ := fld hf 1 59 1 1 rfl (by kernel_rfl)
  clear hf hl h
  match cs, hl' with
  | [c0, c1], _ =>
    obtain ⟨a0, e0, w0⟩ := open_str t0 u0
    obtain ⟨a1, e1, w1⟩ := open_bl t1 u1
    simp at e0 e1
    subst e0 e1
    exact ⟨⟨a0, a1⟩, rfl, w0, w1⟩
theorem open_sl {α : Type} (cells : α → List Value) (ok : World → Nat → α → Prop) {t e : TypeId} (k y : Nat) (ht : Tryz.prog.underlying t = some (.slice e)) (hk : Tryz.prog.cellsOf e = k) (hy : Tryz.prog.bytesOf e = y) (hpos : 0 < k) {fuel : Nat} {cs : List Value} {x : DataW H × List MemPlace}
    (hopen : ∀ n cs x, n < fuel → DataW.trod enc Tryz.prog w base spare held n e cs = some x → Lw Tryz.prog e x.1 → ∃ a, cs = cells a ∧ ok w w.heap.size a) (hlen : ∀ a, (cells a).length = k)
    (h : DataW.trod enc Tryz.prog w base spare held fuel t cs = some x) (hw : Lw Tryz.prog t x.1) : ∃ s : SL α, cs = [s.v] ∧ s.ok cells ok k y w w.heap.size := by
  obtain ⟨A, l, c, hcs, hl, hm, hrb, hrows, hall⟩ := open_rows cells (ok w w.heap.size) k ht hk hpos hopen hlen h hw
  rw [hy] at hrb
  exact ⟨⟨l, A, c⟩, hcs, hl, hm, hrb, hrows, hall⟩
/-- a module. -/
theorem open_mo {fuel : Nat} {cs : List Value} {x : DataW H × List MemPlace} (h : DataW.trod enc Tryz.prog w base spare held fuel 32 cs = some x) (hw : Lw Tryz.prog 32 x.1) : ∃ m : Mo, cs = m.cells ∧ m.ok w w.heap.size := by
  obtain ⟨n, hn, hl, hf⟩ := open_struct Tryz.underlying32 h hw
  have hl' : cs.length = 11 := hl.trans (by kernel_rfl)
  obtain ⟨y0, t0, u0⟩ := fld hf 0 22 0 1 rfl (by kernel_rfl)
  obtain ⟨y1, t1, u1⟩ := fld hf 1 23 1 1 rfl (by kernel_rfl)
  obtain ⟨y2, t2, u2⟩ := fld hf 2 24 2 1 rfl (by kernel_rfl)
  obtain ⟨y3, t3, u3⟩ := fld hf 3 25 3 1 rfl (by kernel_rfl)
  obtain ⟨y4, t4, u4⟩ := fld hf 4 25 4 1 rfl (by kernel_rfl)
  obtain ⟨y5, t5, u5⟩ := fld hf 5 26 5 1 rfl (by kernel_rfl)
  obtain ⟨y6, t6, u6⟩ := fld hf 6 27 6 1 rfl (by kernel_rfl)
  obtain ⟨y7, t7, -⟩ := fld hf 7 3 7 1 rfl (by kernel_rfl)
  obtain ⟨y8, t8, u8⟩ := fld hf 8 28 8 1 rfl (by kernel_rfl)
  obtain ⟨y9, t9, u9⟩ := fld hf 9 29 9 1 rfl (by kernel_rfl)
  obtain ⟨y10, t10, u10⟩ := fld hf 10 30 10 1 rfl (by kernel_rfl)
  clear hf hl h
  match cs, hl' with
  | [c0, c1, c2, c3, c4, c5, c6, c7, c8, c9, c10], _ =>
    obtain ⟨a0, e0, w0⟩ := open_sl Ty.cells Ty.ok 2 48 Tryz.underlying22 (by kernel_rfl) (by kernel_rfl) (by omega) (fun n cs x _ h hw => open_ty h hw) (fun _ => rfl) t0 u0
    obtain ⟨a1, e1, w1⟩ := open_sl Im.cells (fun _ _ => Im.ok) 8 80 Tryz.underlying23 (by kernel_rfl) (by kernel_rfl) (by omega) (fun n cs x _ h hw => open_im h hw) (fun _ => rfl) t1 u1
    obtain ⟨a2, e2, w2⟩ := open_sl Fn.cells Fn.ok 3 56 Tryz.underlying24 (by kernel_rfl) (by kernel_rfl) (by omega) (fun n cs x _ h hw => open_fn h hw) (fun _ => rfl) t2 u2
    obtain ⟨a3, e3, w3⟩ := open_sl Lm.cells (fun _ _ => Lm.ok) 3 24 Tryz.underlying25 (by kernel_rfl) (by kernel_rfl) (by omega) (fun n cs x _ h hw => open_lm h hw) (fun _ => rfl) t3 u3
    obtain ⟨a4, e4, w4⟩ := open_sl Lm.cells (fun _ _ => Lm.ok) 3 24 Tryz.underlying25 (by kernel_rfl) (by kernel_rfl) (by omega) (fun n cs x _ h hw => open_lm h hw) (fun _ => rfl) t4 u4
    obtain ⟨a5, e5, w5⟩ := open_sl Gl.cells Gl.ok 11 136 Tryz.underlying26 (by kernel_rfl) (by kernel_rfl) (by omega) (fun n cs x _ h hw => open_gl h hw) (fun _ => rfl) t5 u5
    obtain ⟨a6, e6, w6⟩ := open_sl Ex.cells (fun _ _ => Ex.ok) 3 32 Tryz.underlying27 (by kernel_rfl) (by kernel_rfl) (by omega) (fun n cs x _ h hw => open_ex h hw) (fun _ => rfl) t6 u6
    obtain ⟨a7, e7, w7⟩ := open_int t7
    obtain ⟨a8, e8, w8⟩ := open_sl El.cells El.ok 10 144 Tryz.underlying28 (by kernel_rfl) (by kernel_rfl) (by omega) (fun n cs x _ h hw => open_el h hw) (fun _ => rfl) t8 u8
    obtain ⟨a9, e9, w9⟩ := open_sl Da.cells Da.ok 10 144 Tryz.underlying29 (by kernel_rfl) (by kernel_rfl) (by omega) (fun n cs x _ h hw => open_da h hw) (fun _ => rfl) t9 u9
    obtain ⟨a10, e10, w10⟩ := open_sl Cu.cells Cu.ok 2 40 Tryz.underlying30 (by kernel_rfl) (by kernel_rfl) (by omega) (fun n cs x _ h hw => open_cu h hw) (fun _ => rfl) t10 u10
    simp at e0 e1 e2 e3 e4 e5 e6 e7 e8 e9 e10
    subst e0 e1 e2 e3 e4 e5 e6 e7 e8 e9 e10
    exact ⟨⟨a0, a1, a2, a3, a4, a5, a6, a7, a8, a9, a10⟩, rfl, w0, w1, w2, w3, w4, w5, w6, w7, w8, w9, w10⟩
end
end Go.Proofs.YtmdgemdollfnhaaGreatDoor
