/- Contract of tree.FuncType, as one; rows that may be written. -/
import Derived.Test.YtmdgemdollfnhaaGreatDoorTreeR3
import Derived.Test.YtmdgemdollfnhaaGreatDoorTreeT3
import Derived.Test.YtmdgemdollfnhaaGreatDoorTreeQR
import Derived.Test.YtmdgemdollfnhaaGreatDoorTreeK2
import Derived.Test.YtmdgemdollfnhaaGreatDoorTreeI
namespace Go.Proofs.YtmdgemdollfnhaaGreatDoor
open Go.RowKit Trx

/-- what FuncType tells hangs on the module and the number alone. -/
theorem FuncType_both (m : Mo) (f : Int) (w : World) (hm : m.ok w w.heap.size) (hf : inI f) : ∃ (ps rs : List Int) (er : Value), (er = .nilIface ∨ er = .iface 68 (.int .i64 5)) ∧
    ∀ w', Below w.heap.size w w' → Calls Tryz.prog 7 #[moA m, .int .i64 f] w' fun e w'' => ∃ vp vr, e = .returned (.tuple #[.agg #[vp, vr], er]) ∧ OwnK w'.heap.size w' w'' 3 1 vp (ones (n64s ps)) ∧ OwnK w'.heap.size w' w'' 3 1 vr (ones (n64s rs)) := by
  rcases hft : ftV m f with _ | k
  · refine ⟨[], [], _, .inr rfl, fun w' hb => (FuncType_none m f w' (hm.below hb) hf hft).mono ?_⟩
    rintro e w'' ⟨rfl, hb2⟩
    exact ⟨_, _, rfl, OwnK.nil_ _ _ _ _ hb2 hb2.size, OwnK.nil_ _ _ _ _ hb2 hb2.size⟩
  · obtain ⟨t, ht, -⟩ := FuncType_some m f w hm hf k hft
    refine ⟨t.p.zs, t.r.zs, _, .inl rfl, fun w' hb => ?_⟩
    obtain ⟨t', ht', hc⟩ := FuncType_some m f w' (hm.below hb) hf k hft
    obtain rfl : t' = t := Option.some.inj (ht'.symm.trans ht)
    refine hc.mono ?_
    rintro e w'' ⟨vp, vr, rfl, h1, h2, -⟩
    exact ⟨vp, vr, rfl, h1, h2⟩
/-- a row of the call's own may be written. -/
theorem OwnK.there {B : Nat} {w0 w : World} {e : TypeId} {v : Value} {vs : List Value} (h : OwnK B w0 w e 1 v (ones vs)) : ∃ (A : Option Addr) (c : Nat), v = .slice A vs.length c ∧ vs.length ≤ c ∧ c ≤ maxLen ∧ (vs.length ≠ 0 → ∃ g, A = some ⟨g, 0, none⟩ ∧ B ≤ g ∧ g < w.heap.size ∧ w.there g 0 vs.length) := by
  obtain ⟨A, c, hv, hl, hm, hrow⟩ := h.formB (by omega)
  rw [ones_length] at hv hl
  refine ⟨A, c, hv, hl, hm, fun hne => ?_⟩
  obtain ⟨g, hg, hA, h1, h2, hc⟩ := hrow (fun e => hne (by have := congrArg List.length e; rwa [ones_length] at this))
  refine ⟨g, hA, h1, h2, fun j hj => ⟨?_, ?_⟩⟩
  · have := hc j [vs[j]] (by simp [ones, List.getElem?_eq_getElem hj]) 0 (by omega)
    rw [Nat.mul_one, Nat.add_zero] at this
    rw [Nat.zero_add, this]
    rfl
  · rcases h.row.2 with ⟨rfl, hn⟩ | ⟨g', cap, cur, rfl, -, hcur, -⟩
    · simp [Value.ownBlock] at hg
    · simp [Value.ownBlock] at hg
      subst hg
      exact frozen_of_heap hcur
/-- what the two loops keep. -/
structure Kz (B W8 : Nat) (W5 w : World) (v0 v1 : Value) : Prop where
  below : Below B W5 w
  lt : W8 < w.heap.size
  c0 : w.cell? ⟨W8, 0, none⟩ = some v0
  c1 : w.cell? ⟨W8, 1, none⟩ = some v1
theorem Kz.set {B W8 : Nat} {W5 w : World} {v0 v1 : Value} (h : Kz B W8 W5 w v0 v1) {g i : Nat} (hg : B ≤ g) (hne : g ≠ W8) (u : Value) : Kz B W8 W5 (w.setCell ⟨g, i, none⟩ u) v0 v1 :=
  ⟨h.below.setCell (p := ⟨g, i, none⟩) hg u, by simpa [World.setCell] using h.lt, (cell_other u (fun e => hne e.symm)).trans h.c0, (cell_other u (fun e => hne e.symm)).trans h.c1⟩
theorem Kz.later {B W8 : Nat} {W5 w w' : World} {v0 v1 : Value} (h : Kz B W8 W5 w v0 v1) (hb : Below w.heap.size w w') (hB : B ≤ w.heap.size) : Kz B W8 W5 w' v0 v1 :=
  ⟨h.below.trans (hb.mono hB), Nat.lt_of_lt_of_le h.lt hb.size, (hb.cell (p := ⟨W8, 0, none⟩) h.lt).trans h.c0, (hb.cell (p := ⟨W8, 1, none⟩) h.lt).trans h.c1⟩
theorem there_below {w w' : World} {g n : Nat} (h : w.there g 0 n) (hb : Below w.heap.size w w') (hg : g < w.heap.size) : w'.there g 0 n := fun j hj => by
  rw [hb.cell (p := ⟨g, 0 + j, none⟩) hg, hb.frozen (p := ⟨g, 0 + j, none⟩) hg]
  exact h j hj
/-- what the loops that store go by. -/
def Lp (B W8 : Nat) (W5 : World) (Ap Ar : Option Addr) (np nr : Nat) (v0 v1 : Value) (N : Nat) (k : Value) (wr : World) : Prop :=
  ∃ j : Nat, j ≤ N ∧ k = .int .i64 j ∧ Kz B W8 W5 wr v0 v1 ∧ (∀ g, Ap = some ⟨g, 0, none⟩ → wr.there g 0 np) ∧ (∀ g, Ar = some ⟨g, 0, none⟩ → wr.there g 0 nr)
/-- a frame that is not looked at. -/
theorem gen_seven {P : Program} {c : Code} {Q : Exit → Act → World → Prop} {w : World} {v2 v5 v7 v8 v9 v12 v13 : Value} (a : Act) (hs : a.tmps.size = 83) (hd : a.defers = []) (h2 : a.eval (.tmp 2) = v2) (h5 : a.eval (.tmp 5) = v5) (h7 : a.eval (.tmp 7) = v7) (h8 : a.eval (.tmp 8) = v8) (h9 : a.eval (.tmp 9) = v9) (h12 : a.eval (.tmp 12) = v12) (h13 : a.eval (.tmp 13) = v13)
    (H : ∀ a : Act, a.tmps.size = 83 → a.defers = [] → a.eval (.tmp 2) = v2 → a.eval (.tmp 5) = v5 → a.eval (.tmp 7) = v7 → a.eval (.tmp 8) = v8 → a.eval (.tmp 9) = v9 → a.eval (.tmp 12) = v12 → a.eval (.tmp 13) = v13 → Code.wp P c Q a w) : Code.wp P c Q a w := H a hs hd h2 h5 h7 h8 h9 h12 h13
/-- what each operation of the last region leaves in its slot. -/
def VZ (m c : Mo) (er : Value) (q : Bool) (W8 W12 : Nat) (s8 s12 : Value) (np : Nat) : Nat → Value → World → Prop
  | 2, v, _ => v = moV c
  | 3, v, _ => v = moV m
  | 7, v, _ => v = er
  | 8, v, _ => v = .bool q
  | 9, v, _ => v = er
  | 10, v, _ => v = .bool q
  | 14, v, _ => v = .pointer (some ⟨W12, 0, none⟩)
  | 15, v, _ => v = s12
  | 16, v, _ => v = .int .i64 np
  | 17, v, _ => v = .pointer (some ⟨W8, 0, none⟩)
  | 18, v, _ => v = s8
  | 19, v, _ => v = .int .i64 np
  | _, v, _ => v = .bool true
theorem VZ.mono {m c : Mo} {er : Value} {q : Bool} {W8 W12 : Nat} {s8 s12 : Value} {np : Nat} (i : Nat) (v : Value) (w w' : World) (h : VZ m c er q W8 W12 s8 s12 np i v w) (_ : Below w.heap.size w w') : VZ m c er q W8 W12 s8 s12 np i v w' := by
  unfold VZ at *
  split at h
  all_goals exact h
theorem there_set {w : World} {g k n : Nat} {b i : Nat} (h : w.there g k n) (u : Value) : (w.setCell ⟨b, i, none⟩ u).there g k n := World.there_setCells h b i [u]
end Go.Proofs.YtmdgemdollfnhaaGreatDoor

/- The walk of TreeStays. -/
namespace Go.Proofs.YtmdgemdollfnhaaGreatDoor
open Go.RowKit Trx

set_option maxHeartbeats 16000000 in
set_option maxRecDepth 100000 in
theorem walk_TreeStays (m : Mo) (i : Int) (w : World) (hm : m.ok w w.heap.size) (hiw : (Lit.int .i64 i).wf = true) (hN : Nam w) :
    Calls Tryz.prog 3 #[moA m, .int .i64 i] w fun e w' => e = .returned (.bool true) ∧ Below w.heap.size w w' := by
  have HI := Lib.hid (inI_of hiw)
  have HU := Lib.hid (fun w' (h : Below w.heap.size w w') => up_any w' (hN.below h))
  have HF := Lib.hid (fun w' (h : Below w.heap.size w w') => Few_any m w' (hm.below h))
  have HC := Lib.hid (fun w' (h : Below w.heap.size w w') => CopyModule_any m w' (hm.below h))
  have HM := Lib.hid hm
  have HN := Lib.hid hN
  unfold moA at *
  unfold moV at HC
  clear hm hN hiw
  go_enter Tryz.func3, Tryz.ntmps3
  go_wp2_with (first
    | (go_at_call 4; ((with_reducible refine (HU.out _ ((Below.refl _ _).alloc (Nat.le_refl _) _)).mono ?_); rintro e w1 ⟨rfl, hb1⟩; have HK1 := Lib.hid (show Bx1 w #[.slice m.ty.A m.ty.l.length m.ty.c, .slice m.im.A m.im.l.length m.im.c, .slice m.fn.A m.fn.l.length m.fn.c, .slice m.ta.A m.ta.l.length m.ta.c, .slice m.me.A m.me.l.length m.me.c, .slice m.gl.A m.gl.l.length m.gl.c, .slice m.ex.A m.ex.l.length m.ex.c, .int .i64 m.st, .slice m.el.A m.el.l.length m.el.c, .slice m.da.A m.da.l.length m.da.c, .slice m.cu.A m.cu.l.length m.cu.c] w1 from (by obtain ⟨x1, x2, -, x3⟩ := newBlk hb1; exact ⟨x1, x2, x3⟩)); have k0 : w1.cell? ⟨w.heap.size, 0, none⟩ = some (.slice m.ty.A m.ty.l.length m.ty.c) := HK1.out.2.1 0; have k1 : w1.cell? ⟨w.heap.size, 1, none⟩ = some (.slice m.im.A m.im.l.length m.im.c) := HK1.out.2.1 1; have k2 : w1.cell? ⟨w.heap.size, 2, none⟩ = some (.slice m.fn.A m.fn.l.length m.fn.c) := HK1.out.2.1 2; have k3 : w1.cell? ⟨w.heap.size, 3, none⟩ = some (.slice m.ta.A m.ta.l.length m.ta.c) := HK1.out.2.1 3; have k4 : w1.cell? ⟨w.heap.size, 4, none⟩ = some (.slice m.me.A m.me.l.length m.me.c) := HK1.out.2.1 4; have k5 : w1.cell? ⟨w.heap.size, 5, none⟩ = some (.slice m.gl.A m.gl.l.length m.gl.c) := HK1.out.2.1 5; have k6 : w1.cell? ⟨w.heap.size, 6, none⟩ = some (.slice m.ex.A m.ex.l.length m.ex.c) := HK1.out.2.1 6; have k7 : w1.cell? ⟨w.heap.size, 7, none⟩ = some (.int .i64 m.st) := HK1.out.2.1 7; have k8 : w1.cell? ⟨w.heap.size, 8, none⟩ = some (.slice m.el.A m.el.l.length m.el.c) := HK1.out.2.1 8; have k9 : w1.cell? ⟨w.heap.size, 9, none⟩ = some (.slice m.da.A m.da.l.length m.da.c) := HK1.out.2.1 9; have k10 : w1.cell? ⟨w.heap.size, 10, none⟩ = some (.slice m.cu.A m.cu.l.length m.cu.c) := HK1.out.2.1 10; have hl1 := HK1.out.1; clear hb1))
    | (go_at_call 5; ((with_reducible refine (HF.out _ HK1.out.bel).mono ?_); rintro e w2 ⟨⟨f2, rfl⟩, hb1⟩; have HK2 := Lib.hid (HK1.out.next hb1); clear k0 k1 k2 k3 k4 k5 k6 k7 k8 k9 k10; have k0 : w2.cell? ⟨w.heap.size, 0, none⟩ = some (.slice m.ty.A m.ty.l.length m.ty.c) := HK2.out.2.1 0; have k1 : w2.cell? ⟨w.heap.size, 1, none⟩ = some (.slice m.im.A m.im.l.length m.im.c) := HK2.out.2.1 1; have k2 : w2.cell? ⟨w.heap.size, 2, none⟩ = some (.slice m.fn.A m.fn.l.length m.fn.c) := HK2.out.2.1 2; have k3 : w2.cell? ⟨w.heap.size, 3, none⟩ = some (.slice m.ta.A m.ta.l.length m.ta.c) := HK2.out.2.1 3; have k4 : w2.cell? ⟨w.heap.size, 4, none⟩ = some (.slice m.me.A m.me.l.length m.me.c) := HK2.out.2.1 4; have k5 : w2.cell? ⟨w.heap.size, 5, none⟩ = some (.slice m.gl.A m.gl.l.length m.gl.c) := HK2.out.2.1 5; have k6 : w2.cell? ⟨w.heap.size, 6, none⟩ = some (.slice m.ex.A m.ex.l.length m.ex.c) := HK2.out.2.1 6; have k7 : w2.cell? ⟨w.heap.size, 7, none⟩ = some (.int .i64 m.st) := HK2.out.2.1 7; have k8 : w2.cell? ⟨w.heap.size, 8, none⟩ = some (.slice m.el.A m.el.l.length m.el.c) := HK2.out.2.1 8; have k9 : w2.cell? ⟨w.heap.size, 9, none⟩ = some (.slice m.da.A m.da.l.length m.da.c) := HK2.out.2.1 9; have k10 : w2.cell? ⟨w.heap.size, 10, none⟩ = some (.slice m.cu.A m.cu.l.length m.cu.c) := HK2.out.2.1 10; have hl2 := HK2.out.1; clear hb1))
    | (go_at_call 6; ((with_reducible refine (HC.out _ HK2.out.bel).mono ?_); rintro e w3 ⟨c, rfl, hok, hkey, hb1⟩; have HK3 := Lib.hid (HK2.out.next hb1); clear k0 k1 k2 k3 k4 k5 k6 k7 k8 k9 k10; have k0 : w3.cell? ⟨w.heap.size, 0, none⟩ = some (.slice m.ty.A m.ty.l.length m.ty.c) := HK3.out.2.1 0; have k1 : w3.cell? ⟨w.heap.size, 1, none⟩ = some (.slice m.im.A m.im.l.length m.im.c) := HK3.out.2.1 1; have k2 : w3.cell? ⟨w.heap.size, 2, none⟩ = some (.slice m.fn.A m.fn.l.length m.fn.c) := HK3.out.2.1 2; have k3 : w3.cell? ⟨w.heap.size, 3, none⟩ = some (.slice m.ta.A m.ta.l.length m.ta.c) := HK3.out.2.1 3; have k4 : w3.cell? ⟨w.heap.size, 4, none⟩ = some (.slice m.me.A m.me.l.length m.me.c) := HK3.out.2.1 4; have k5 : w3.cell? ⟨w.heap.size, 5, none⟩ = some (.slice m.gl.A m.gl.l.length m.gl.c) := HK3.out.2.1 5; have k6 : w3.cell? ⟨w.heap.size, 6, none⟩ = some (.slice m.ex.A m.ex.l.length m.ex.c) := HK3.out.2.1 6; have k7 : w3.cell? ⟨w.heap.size, 7, none⟩ = some (.int .i64 m.st) := HK3.out.2.1 7; have k8 : w3.cell? ⟨w.heap.size, 8, none⟩ = some (.slice m.el.A m.el.l.length m.el.c) := HK3.out.2.1 8; have k9 : w3.cell? ⟨w.heap.size, 9, none⟩ = some (.slice m.da.A m.da.l.length m.da.c) := HK3.out.2.1 9; have k10 : w3.cell? ⟨w.heap.size, 10, none⟩ = some (.slice m.cu.A m.cu.l.length m.cu.c) := HK3.out.2.1 10; have hl3 := HK3.out.1; have HOk := Lib.hid hok; have HKey := Lib.hid hkey; clear hb1 hok hkey)))
  · go_ret
    exact ⟨rfl, HK2.out.bel⟩
  · clear k0 k1 k2 k3 k4 k5 k6 k7 k8 k9 k10
    have hal : Below w3.heap.size w3 (w3.alloc (.cells #[.slice c.ty.A c.ty.l.length c.ty.c, .slice c.im.A c.im.l.length c.im.c, .slice c.fn.A c.fn.l.length c.fn.c, .slice c.ta.A c.ta.l.length c.ta.c, .slice c.me.A c.me.l.length c.me.c, .slice c.gl.A c.gl.l.length c.gl.c, .slice c.ex.A c.ex.l.length c.ex.c, .int .i64 c.st, .slice c.el.A c.el.l.length c.el.c, .slice c.da.A c.da.l.length c.da.c, .slice c.cu.A c.cu.l.length c.cu.c] 32)) := (Below.refl _ _).alloc (Nat.le_refl _) _
    have hbel5 : Below w.heap.size w (w3.alloc (.cells #[.slice c.ty.A c.ty.l.length c.ty.c, .slice c.im.A c.im.l.length c.im.c, .slice c.fn.A c.fn.l.length c.fn.c, .slice c.ta.A c.ta.l.length c.ta.c, .slice c.me.A c.me.l.length c.me.c, .slice c.gl.A c.gl.l.length c.gl.c, .slice c.ex.A c.ex.l.length c.ex.c, .int .i64 c.st, .slice c.el.A c.el.l.length c.el.c, .slice c.da.A c.da.l.length c.da.c, .slice c.cu.A c.cu.l.length c.cu.c] 32)) := HK3.out.bel.trans (hal.mono HK3.out.bel.size)
    have hr1 : ∀ k, (w3.alloc (.cells #[.slice c.ty.A c.ty.l.length c.ty.c, .slice c.im.A c.im.l.length c.im.c, .slice c.fn.A c.fn.l.length c.fn.c, .slice c.ta.A c.ta.l.length c.ta.c, .slice c.me.A c.me.l.length c.me.c, .slice c.gl.A c.gl.l.length c.gl.c, .slice c.ex.A c.ex.l.length c.ex.c, .int .i64 c.st, .slice c.el.A c.el.l.length c.el.c, .slice c.da.A c.da.l.length c.da.c, .slice c.cu.A c.cu.l.length c.cu.c] 32)).cell? ⟨w.heap.size, k, none⟩ = #[.slice m.ty.A m.ty.l.length m.ty.c, .slice m.im.A m.im.l.length m.im.c, .slice m.fn.A m.fn.l.length m.fn.c, .slice m.ta.A m.ta.l.length m.ta.c, .slice m.me.A m.me.l.length m.me.c, .slice m.gl.A m.gl.l.length m.gl.c, .slice m.ex.A m.ex.l.length m.ex.c, .int .i64 m.st, .slice m.el.A m.el.l.length m.el.c, .slice m.da.A m.da.l.length m.da.c, .slice m.cu.A m.cu.l.length m.cu.c][k]? := fun k => (hal.cell (p := ⟨w.heap.size, k, none⟩) hl3).trans (HK3.out.2.1 k)
    have hr2 : ∀ k, (w3.alloc (.cells #[.slice c.ty.A c.ty.l.length c.ty.c, .slice c.im.A c.im.l.length c.im.c, .slice c.fn.A c.fn.l.length c.fn.c, .slice c.ta.A c.ta.l.length c.ta.c, .slice c.me.A c.me.l.length c.me.c, .slice c.gl.A c.gl.l.length c.gl.c, .slice c.ex.A c.ex.l.length c.ex.c, .int .i64 c.st, .slice c.el.A c.el.l.length c.el.c, .slice c.da.A c.da.l.length c.da.c, .slice c.cu.A c.cu.l.length c.cu.c] 32)).cell? ⟨w3.heap.size, k, none⟩ = #[.slice c.ty.A c.ty.l.length c.ty.c, .slice c.im.A c.im.l.length c.im.c, .slice c.fn.A c.fn.l.length c.fn.c, .slice c.ta.A c.ta.l.length c.ta.c, .slice c.me.A c.me.l.length c.me.c, .slice c.gl.A c.gl.l.length c.gl.c, .slice c.ex.A c.ex.l.length c.ex.c, .int .i64 c.st, .slice c.el.A c.el.l.length c.el.c, .slice c.da.A c.da.l.length c.da.c, .slice c.cu.A c.cu.l.length c.cu.c][k]? := fun k => World.cell?_alloc_at _ _ _ _ rfl
    have hS5 : (w3.alloc (.cells #[.slice c.ty.A c.ty.l.length c.ty.c, .slice c.im.A c.im.l.length c.im.c, .slice c.fn.A c.fn.l.length c.fn.c, .slice c.ta.A c.ta.l.length c.ta.c, .slice c.me.A c.me.l.length c.me.c, .slice c.gl.A c.gl.l.length c.gl.c, .slice c.ex.A c.ex.l.length c.ex.c, .int .i64 c.st, .slice c.el.A c.el.l.length c.el.c, .slice c.da.A c.da.l.length c.da.c, .slice c.cu.A c.cu.l.length c.cu.c] 32)).heap.size = w3.heap.size + 1 := by simp
    have hOm := HM.out.below hbel5
    have hOc := HOk.out.below hal
    have hNw := HN.out.below hbel5
    generalize (w3.alloc (.cells #[.slice c.ty.A c.ty.l.length c.ty.c, .slice c.im.A c.im.l.length c.im.c, .slice c.fn.A c.fn.l.length c.fn.c, .slice c.ta.A c.ta.l.length c.ta.c, .slice c.me.A c.me.l.length c.me.c, .slice c.gl.A c.gl.l.length c.gl.c, .slice c.ex.A c.ex.l.length c.ex.c, .int .i64 c.st, .slice c.el.A c.el.l.length c.el.c, .slice c.da.A c.da.l.length c.da.c, .slice c.cu.A c.cu.l.length c.cu.c] 32)) = W5 at hal hbel5 hr1 hr2 hS5 hOm hOc hNw ⊢
    have HL := Lib.hid (show w.heap.size < W5.heap.size ∧ w3.heap.size < W5.heap.size by omega)
    have HR1 := Lib.hid hr1
    have HR2 := Lib.hid hr2
    have HB5 := Lib.hid hbel5
    have HSm := Lib.hid (fun w' (h : Below W5.heap.size W5 w') => Small_any c w' (hNw.below h) (hOc.below h))
    have HSa := Lib.hid (fun w' (h : Below W5.heap.size W5 w') => Same_any c m w' (hOc.below h) (hOm.below h))
    have HSr := Lib.hid (fun w' (h : Below W5.heap.size W5 w') => refSame_any c m w' (hOc.below h) (hOm.below h) HKey.out)
    obtain ⟨ps, rs, er, hE, hft⟩ := FuncType_both c i W5 hOc HI.out
    unfold moA at hft
    unfold moV at HSm HSa HSr
    have HFT := Lib.hid hft
    have HE := Lib.hid hE
    clear hal hbel5 hr1 hr2 hS5 hOm hOc hNw hft hE
    refine (HFT.out W5 (Below.refl _ _)).mono ?_
    rintro e w6 ⟨vp, vr, rfl, hop, hor⟩
    obtain ⟨Ap, cp, rfl, hlp, hmp, htp⟩ := hop.there
    obtain ⟨Ar, cr, rfl, hlr, hmr, htr⟩ := hor.there
    have hb6 := hop.below
    have hz6 := hop.le
    rw [n64s_length] at *
    unfold maxLen at hmp hmr
    have HTP := Lib.hid htp
    have HTR := Lib.hid htr
    have HB6 := Lib.hid hb6
    clear hop hor htp htr hb6
    go_wp2_with fail
    have hK7 : Kz W5.heap.size w6.heap.size W5 (w6.alloc (.cells #[.slice Ap ps.length cp, .slice Ar rs.length cr] 38)) (.slice Ap ps.length cp) (.slice Ar rs.length cr) := ⟨HB6.out.alloc hz6 _, by simp, World.cell?_alloc_at _ _ _ _ rfl, World.cell?_alloc_at _ _ _ _ rfl⟩
    have hT7 : ∀ g, Ap = some ⟨g, 0, none⟩ → (w6.alloc (.cells #[.slice Ap ps.length cp, .slice Ar rs.length cr] 38)).there g 0 ps.length := fun g hg => by
      by_cases h0 : ps.length = 0
      · intro j hj; omega
      · obtain ⟨g', hg', -, h2, h3⟩ := HTP.out h0
        obtain rfl : g = g' := by rw [hg] at hg'; injection hg' with h; injection h
        exact there_below h3 ((Below.refl _ _).alloc (Nat.le_refl _) _) h2
    have hU7 : ∀ g, Ar = some ⟨g, 0, none⟩ → (w6.alloc (.cells #[.slice Ap ps.length cp, .slice Ar rs.length cr] 38)).there g 0 rs.length := fun g hg => by
      by_cases h0 : rs.length = 0
      · intro j hj; omega
      · obtain ⟨g', hg', -, h2, h3⟩ := HTR.out h0
        obtain rfl : g = g' := by rw [hg] at hg'; injection hg' with h; injection h
        exact there_below h3 ((Below.refl _ _).alloc (Nat.le_refl _) _) h2
    have HL0 := Lib.hid (fun (N : Nat) => (⟨0, Nat.zero_le _, rfl, hK7, hT7, hU7⟩ : Lp W5.heap.size w6.heap.size W5 Ap Ar ps.length rs.length (.slice Ap ps.length cp) (.slice Ar rs.length cr) N (.int .i64 0) _))
    clear hK7 hT7 hU7
    go_loopw [10] (fun k wr => Lp W5.heap.size w6.heap.size W5 Ap Ar ps.length rs.length (.slice Ap ps.length cp) (.slice Ar rs.length cr) ps.length k wr) (fun k _ => ps.length - (intOf k).toNat)
    case atStart => exact HL0.out _
    case round =>
      obtain ⟨j, hj, rfl, hK, hT, hU⟩ := hrel
      have c0 := hK.c0
      have hlt8 := hK.lt
      by_cases hlt : j < ps.length
      · obtain ⟨g, rfl, hg1, hg2, -⟩ := HTP.out (by omega)
        obtain ⟨hs1, hs2⟩ := hT g rfl j hlt
        rw [Nat.zero_add] at hs1 hs2
        obtain ⟨u, hu⟩ := Option.isSome_iff_exists.1 hs1
        have HKK := Lib.hid hK
        have HTT := Lib.hid hT
        have HUU := Lib.hid hU
        clear hs1 hK hT hU
        go_wp2_with fail
        go_roundw
        case rel => exact ⟨j + 1, by omega, by go_num, HKK.out.set hg1 (by omega) _, fun g' hg' => there_set (HTT.out g' hg') _, fun g' hg' => there_set (HUU.out g' hg') _⟩
        case measure => simp [intOf]; omega
      · have HKK := Lib.hid hK
        have HTT := Lib.hid hT
        have HUU := Lib.hid hU
        clear hK hT hU
        go_wp2_with fail
        go_loopw [11] (fun k wr => Lp W5.heap.size w6.heap.size W5 Ap Ar ps.length rs.length (.slice Ap ps.length cp) (.slice Ar rs.length cr) rs.length k wr) (fun k _ => rs.length - (intOf k).toNat)
        case atStart => exact ⟨0, Nat.zero_le _, rfl, HKK.out, HTT.out, HUU.out⟩
        case round =>
          clear HKK HTT HUU c0 hlt8
          obtain ⟨j2, hj2, rfl, hK, hT, hU⟩ := hrel
          have c1 := hK.c1
          have hlt8 := hK.lt
          by_cases hlt2 : j2 < rs.length
          · obtain ⟨g, rfl, hg1, hg2, -⟩ := HTR.out (by omega)
            obtain ⟨hs1, hs2⟩ := hU g rfl j2 hlt2
            rw [Nat.zero_add] at hs1 hs2
            obtain ⟨u, hu⟩ := Option.isSome_iff_exists.1 hs1
            have HKK := Lib.hid hK
            have HTT := Lib.hid hT
            have HUU := Lib.hid hU
            clear hs1 hK hT hU
            go_wp2_with fail
            go_roundw
            case rel => exact ⟨j2 + 1, by omega, by go_num, HKK.out.set hg1 (by omega) _, fun g' hg' => there_set (HTT.out g' hg') _, fun g' hg' => there_set (HUU.out g' hg') _⟩
            case measure => simp [intOf]; omega
          · have HKa := Lib.hid hK
            have km0 : wr.cell? ⟨w.heap.size, 0, none⟩ = some (.slice m.ty.A m.ty.l.length m.ty.c) := (HKa.out.below.cell (p := ⟨w.heap.size, 0, none⟩) HL.out.1).trans (HR1.out 0)
            have kc0 : wr.cell? ⟨w3.heap.size, 0, none⟩ = some (.slice c.ty.A c.ty.l.length c.ty.c) := (HKa.out.below.cell (p := ⟨w3.heap.size, 0, none⟩) HL.out.2).trans (HR2.out 0)
            have km1 : wr.cell? ⟨w.heap.size, 1, none⟩ = some (.slice m.im.A m.im.l.length m.im.c) := (HKa.out.below.cell (p := ⟨w.heap.size, 1, none⟩) HL.out.1).trans (HR1.out 1)
            have kc1 : wr.cell? ⟨w3.heap.size, 1, none⟩ = some (.slice c.im.A c.im.l.length c.im.c) := (HKa.out.below.cell (p := ⟨w3.heap.size, 1, none⟩) HL.out.2).trans (HR2.out 1)
            have km2 : wr.cell? ⟨w.heap.size, 2, none⟩ = some (.slice m.fn.A m.fn.l.length m.fn.c) := (HKa.out.below.cell (p := ⟨w.heap.size, 2, none⟩) HL.out.1).trans (HR1.out 2)
            have kc2 : wr.cell? ⟨w3.heap.size, 2, none⟩ = some (.slice c.fn.A c.fn.l.length c.fn.c) := (HKa.out.below.cell (p := ⟨w3.heap.size, 2, none⟩) HL.out.2).trans (HR2.out 2)
            have km3 : wr.cell? ⟨w.heap.size, 3, none⟩ = some (.slice m.ta.A m.ta.l.length m.ta.c) := (HKa.out.below.cell (p := ⟨w.heap.size, 3, none⟩) HL.out.1).trans (HR1.out 3)
            have kc3 : wr.cell? ⟨w3.heap.size, 3, none⟩ = some (.slice c.ta.A c.ta.l.length c.ta.c) := (HKa.out.below.cell (p := ⟨w3.heap.size, 3, none⟩) HL.out.2).trans (HR2.out 3)
            have km4 : wr.cell? ⟨w.heap.size, 4, none⟩ = some (.slice m.me.A m.me.l.length m.me.c) := (HKa.out.below.cell (p := ⟨w.heap.size, 4, none⟩) HL.out.1).trans (HR1.out 4)
            have kc4 : wr.cell? ⟨w3.heap.size, 4, none⟩ = some (.slice c.me.A c.me.l.length c.me.c) := (HKa.out.below.cell (p := ⟨w3.heap.size, 4, none⟩) HL.out.2).trans (HR2.out 4)
            have km5 : wr.cell? ⟨w.heap.size, 5, none⟩ = some (.slice m.gl.A m.gl.l.length m.gl.c) := (HKa.out.below.cell (p := ⟨w.heap.size, 5, none⟩) HL.out.1).trans (HR1.out 5)
            have kc5 : wr.cell? ⟨w3.heap.size, 5, none⟩ = some (.slice c.gl.A c.gl.l.length c.gl.c) := (HKa.out.below.cell (p := ⟨w3.heap.size, 5, none⟩) HL.out.2).trans (HR2.out 5)
            have km6 : wr.cell? ⟨w.heap.size, 6, none⟩ = some (.slice m.ex.A m.ex.l.length m.ex.c) := (HKa.out.below.cell (p := ⟨w.heap.size, 6, none⟩) HL.out.1).trans (HR1.out 6)
            have kc6 : wr.cell? ⟨w3.heap.size, 6, none⟩ = some (.slice c.ex.A c.ex.l.length c.ex.c) := (HKa.out.below.cell (p := ⟨w3.heap.size, 6, none⟩) HL.out.2).trans (HR2.out 6)
            have km7 : wr.cell? ⟨w.heap.size, 7, none⟩ = some (.int .i64 m.st) := (HKa.out.below.cell (p := ⟨w.heap.size, 7, none⟩) HL.out.1).trans (HR1.out 7)
            have kc7 : wr.cell? ⟨w3.heap.size, 7, none⟩ = some (.int .i64 c.st) := (HKa.out.below.cell (p := ⟨w3.heap.size, 7, none⟩) HL.out.2).trans (HR2.out 7)
            have km8 : wr.cell? ⟨w.heap.size, 8, none⟩ = some (.slice m.el.A m.el.l.length m.el.c) := (HKa.out.below.cell (p := ⟨w.heap.size, 8, none⟩) HL.out.1).trans (HR1.out 8)
            have kc8 : wr.cell? ⟨w3.heap.size, 8, none⟩ = some (.slice c.el.A c.el.l.length c.el.c) := (HKa.out.below.cell (p := ⟨w3.heap.size, 8, none⟩) HL.out.2).trans (HR2.out 8)
            have km9 : wr.cell? ⟨w.heap.size, 9, none⟩ = some (.slice m.da.A m.da.l.length m.da.c) := (HKa.out.below.cell (p := ⟨w.heap.size, 9, none⟩) HL.out.1).trans (HR1.out 9)
            have kc9 : wr.cell? ⟨w3.heap.size, 9, none⟩ = some (.slice c.da.A c.da.l.length c.da.c) := (HKa.out.below.cell (p := ⟨w3.heap.size, 9, none⟩) HL.out.2).trans (HR2.out 9)
            have km10 : wr.cell? ⟨w.heap.size, 10, none⟩ = some (.slice m.cu.A m.cu.l.length m.cu.c) := (HKa.out.below.cell (p := ⟨w.heap.size, 10, none⟩) HL.out.1).trans (HR1.out 10)
            have kc10 : wr.cell? ⟨w3.heap.size, 10, none⟩ = some (.slice c.cu.A c.cu.l.length c.cu.c) := (HKa.out.below.cell (p := ⟨w3.heap.size, 10, none⟩) HL.out.2).trans (HR2.out 10)
            clear hK hT hU
            go_wp2_with (first
              | (go_at_call 8; ((with_reducible refine (HSm.out _ HKa.out.below).mono ?_); rintro e wa ⟨rfl, hb1⟩; have HKb := Lib.hid (HKa.out.later hb1 HKa.out.below.size); clear km0 kc0 km1 kc1 km2 kc2 km3 kc3 km4 kc4 km5 kc5 km6 kc6 km7 kc7 km8 kc8 km9 kc9 km10 kc10; have km0 : wa.cell? ⟨w.heap.size, 0, none⟩ = some (.slice m.ty.A m.ty.l.length m.ty.c) := (HKb.out.below.cell (p := ⟨w.heap.size, 0, none⟩) HL.out.1).trans (HR1.out 0); have kc0 : wa.cell? ⟨w3.heap.size, 0, none⟩ = some (.slice c.ty.A c.ty.l.length c.ty.c) := (HKb.out.below.cell (p := ⟨w3.heap.size, 0, none⟩) HL.out.2).trans (HR2.out 0); have km1 : wa.cell? ⟨w.heap.size, 1, none⟩ = some (.slice m.im.A m.im.l.length m.im.c) := (HKb.out.below.cell (p := ⟨w.heap.size, 1, none⟩) HL.out.1).trans (HR1.out 1); have kc1 : wa.cell? ⟨w3.heap.size, 1, none⟩ = some (.slice c.im.A c.im.l.length c.im.c) := (HKb.out.below.cell (p := ⟨w3.heap.size, 1, none⟩) HL.out.2).trans (HR2.out 1); have km2 : wa.cell? ⟨w.heap.size, 2, none⟩ = some (.slice m.fn.A m.fn.l.length m.fn.c) := (HKb.out.below.cell (p := ⟨w.heap.size, 2, none⟩) HL.out.1).trans (HR1.out 2); have kc2 : wa.cell? ⟨w3.heap.size, 2, none⟩ = some (.slice c.fn.A c.fn.l.length c.fn.c) := (HKb.out.below.cell (p := ⟨w3.heap.size, 2, none⟩) HL.out.2).trans (HR2.out 2); have km3 : wa.cell? ⟨w.heap.size, 3, none⟩ = some (.slice m.ta.A m.ta.l.length m.ta.c) := (HKb.out.below.cell (p := ⟨w.heap.size, 3, none⟩) HL.out.1).trans (HR1.out 3); have kc3 : wa.cell? ⟨w3.heap.size, 3, none⟩ = some (.slice c.ta.A c.ta.l.length c.ta.c) := (HKb.out.below.cell (p := ⟨w3.heap.size, 3, none⟩) HL.out.2).trans (HR2.out 3); have km4 : wa.cell? ⟨w.heap.size, 4, none⟩ = some (.slice m.me.A m.me.l.length m.me.c) := (HKb.out.below.cell (p := ⟨w.heap.size, 4, none⟩) HL.out.1).trans (HR1.out 4); have kc4 : wa.cell? ⟨w3.heap.size, 4, none⟩ = some (.slice c.me.A c.me.l.length c.me.c) := (HKb.out.below.cell (p := ⟨w3.heap.size, 4, none⟩) HL.out.2).trans (HR2.out 4); have km5 : wa.cell? ⟨w.heap.size, 5, none⟩ = some (.slice m.gl.A m.gl.l.length m.gl.c) := (HKb.out.below.cell (p := ⟨w.heap.size, 5, none⟩) HL.out.1).trans (HR1.out 5); have kc5 : wa.cell? ⟨w3.heap.size, 5, none⟩ = some (.slice c.gl.A c.gl.l.length c.gl.c) := (HKb.out.below.cell (p := ⟨w3.heap.size, 5, none⟩) HL.out.2).trans (HR2.out 5); have km6 : wa.cell? ⟨w.heap.size, 6, none⟩ = some (.slice m.ex.A m.ex.l.length m.ex.c) := (HKb.out.below.cell (p := ⟨w.heap.size, 6, none⟩) HL.out.1).trans (HR1.out 6); have kc6 : wa.cell? ⟨w3.heap.size, 6, none⟩ = some (.slice c.ex.A c.ex.l.length c.ex.c) := (HKb.out.below.cell (p := ⟨w3.heap.size, 6, none⟩) HL.out.2).trans (HR2.out 6); have km7 : wa.cell? ⟨w.heap.size, 7, none⟩ = some (.int .i64 m.st) := (HKb.out.below.cell (p := ⟨w.heap.size, 7, none⟩) HL.out.1).trans (HR1.out 7); have kc7 : wa.cell? ⟨w3.heap.size, 7, none⟩ = some (.int .i64 c.st) := (HKb.out.below.cell (p := ⟨w3.heap.size, 7, none⟩) HL.out.2).trans (HR2.out 7); have km8 : wa.cell? ⟨w.heap.size, 8, none⟩ = some (.slice m.el.A m.el.l.length m.el.c) := (HKb.out.below.cell (p := ⟨w.heap.size, 8, none⟩) HL.out.1).trans (HR1.out 8); have kc8 : wa.cell? ⟨w3.heap.size, 8, none⟩ = some (.slice c.el.A c.el.l.length c.el.c) := (HKb.out.below.cell (p := ⟨w3.heap.size, 8, none⟩) HL.out.2).trans (HR2.out 8); have km9 : wa.cell? ⟨w.heap.size, 9, none⟩ = some (.slice m.da.A m.da.l.length m.da.c) := (HKb.out.below.cell (p := ⟨w.heap.size, 9, none⟩) HL.out.1).trans (HR1.out 9); have kc9 : wa.cell? ⟨w3.heap.size, 9, none⟩ = some (.slice c.da.A c.da.l.length c.da.c) := (HKb.out.below.cell (p := ⟨w3.heap.size, 9, none⟩) HL.out.2).trans (HR2.out 9); have km10 : wa.cell? ⟨w.heap.size, 10, none⟩ = some (.slice m.cu.A m.cu.l.length m.cu.c) := (HKb.out.below.cell (p := ⟨w.heap.size, 10, none⟩) HL.out.1).trans (HR1.out 10); have kc10 : wa.cell? ⟨w3.heap.size, 10, none⟩ = some (.slice c.cu.A c.cu.l.length c.cu.c) := (HKb.out.below.cell (p := ⟨w3.heap.size, 10, none⟩) HL.out.2).trans (HR2.out 10); clear hb1))
              | (go_at_call 9; ((with_reducible refine (HSa.out _ HKb.out.below).mono ?_); rintro e wb ⟨⟨qs, rfl, -⟩, hb1⟩; have HKc := Lib.hid (HKb.out.later hb1 HKb.out.below.size); clear km0 kc0 km1 kc1 km2 kc2 km3 kc3 km4 kc4 km5 kc5 km6 kc6 km7 kc7 km8 kc8 km9 kc9 km10 kc10; have km0 : wb.cell? ⟨w.heap.size, 0, none⟩ = some (.slice m.ty.A m.ty.l.length m.ty.c) := (HKc.out.below.cell (p := ⟨w.heap.size, 0, none⟩) HL.out.1).trans (HR1.out 0); have kc0 : wb.cell? ⟨w3.heap.size, 0, none⟩ = some (.slice c.ty.A c.ty.l.length c.ty.c) := (HKc.out.below.cell (p := ⟨w3.heap.size, 0, none⟩) HL.out.2).trans (HR2.out 0); have km1 : wb.cell? ⟨w.heap.size, 1, none⟩ = some (.slice m.im.A m.im.l.length m.im.c) := (HKc.out.below.cell (p := ⟨w.heap.size, 1, none⟩) HL.out.1).trans (HR1.out 1); have kc1 : wb.cell? ⟨w3.heap.size, 1, none⟩ = some (.slice c.im.A c.im.l.length c.im.c) := (HKc.out.below.cell (p := ⟨w3.heap.size, 1, none⟩) HL.out.2).trans (HR2.out 1); have km2 : wb.cell? ⟨w.heap.size, 2, none⟩ = some (.slice m.fn.A m.fn.l.length m.fn.c) := (HKc.out.below.cell (p := ⟨w.heap.size, 2, none⟩) HL.out.1).trans (HR1.out 2); have kc2 : wb.cell? ⟨w3.heap.size, 2, none⟩ = some (.slice c.fn.A c.fn.l.length c.fn.c) := (HKc.out.below.cell (p := ⟨w3.heap.size, 2, none⟩) HL.out.2).trans (HR2.out 2); have km3 : wb.cell? ⟨w.heap.size, 3, none⟩ = some (.slice m.ta.A m.ta.l.length m.ta.c) := (HKc.out.below.cell (p := ⟨w.heap.size, 3, none⟩) HL.out.1).trans (HR1.out 3); have kc3 : wb.cell? ⟨w3.heap.size, 3, none⟩ = some (.slice c.ta.A c.ta.l.length c.ta.c) := (HKc.out.below.cell (p := ⟨w3.heap.size, 3, none⟩) HL.out.2).trans (HR2.out 3); have km4 : wb.cell? ⟨w.heap.size, 4, none⟩ = some (.slice m.me.A m.me.l.length m.me.c) := (HKc.out.below.cell (p := ⟨w.heap.size, 4, none⟩) HL.out.1).trans (HR1.out 4); have kc4 : wb.cell? ⟨w3.heap.size, 4, none⟩ = some (.slice c.me.A c.me.l.length c.me.c) := (HKc.out.below.cell (p := ⟨w3.heap.size, 4, none⟩) HL.out.2).trans (HR2.out 4); have km5 : wb.cell? ⟨w.heap.size, 5, none⟩ = some (.slice m.gl.A m.gl.l.length m.gl.c) := (HKc.out.below.cell (p := ⟨w.heap.size, 5, none⟩) HL.out.1).trans (HR1.out 5); have kc5 : wb.cell? ⟨w3.heap.size, 5, none⟩ = some (.slice c.gl.A c.gl.l.length c.gl.c) := (HKc.out.below.cell (p := ⟨w3.heap.size, 5, none⟩) HL.out.2).trans (HR2.out 5); have km6 : wb.cell? ⟨w.heap.size, 6, none⟩ = some (.slice m.ex.A m.ex.l.length m.ex.c) := (HKc.out.below.cell (p := ⟨w.heap.size, 6, none⟩) HL.out.1).trans (HR1.out 6); have kc6 : wb.cell? ⟨w3.heap.size, 6, none⟩ = some (.slice c.ex.A c.ex.l.length c.ex.c) := (HKc.out.below.cell (p := ⟨w3.heap.size, 6, none⟩) HL.out.2).trans (HR2.out 6); have km7 : wb.cell? ⟨w.heap.size, 7, none⟩ = some (.int .i64 m.st) := (HKc.out.below.cell (p := ⟨w.heap.size, 7, none⟩) HL.out.1).trans (HR1.out 7); have kc7 : wb.cell? ⟨w3.heap.size, 7, none⟩ = some (.int .i64 c.st) := (HKc.out.below.cell (p := ⟨w3.heap.size, 7, none⟩) HL.out.2).trans (HR2.out 7); have km8 : wb.cell? ⟨w.heap.size, 8, none⟩ = some (.slice m.el.A m.el.l.length m.el.c) := (HKc.out.below.cell (p := ⟨w.heap.size, 8, none⟩) HL.out.1).trans (HR1.out 8); have kc8 : wb.cell? ⟨w3.heap.size, 8, none⟩ = some (.slice c.el.A c.el.l.length c.el.c) := (HKc.out.below.cell (p := ⟨w3.heap.size, 8, none⟩) HL.out.2).trans (HR2.out 8); have km9 : wb.cell? ⟨w.heap.size, 9, none⟩ = some (.slice m.da.A m.da.l.length m.da.c) := (HKc.out.below.cell (p := ⟨w.heap.size, 9, none⟩) HL.out.1).trans (HR1.out 9); have kc9 : wb.cell? ⟨w3.heap.size, 9, none⟩ = some (.slice c.da.A c.da.l.length c.da.c) := (HKc.out.below.cell (p := ⟨w3.heap.size, 9, none⟩) HL.out.2).trans (HR2.out 9); have km10 : wb.cell? ⟨w.heap.size, 10, none⟩ = some (.slice m.cu.A m.cu.l.length m.cu.c) := (HKc.out.below.cell (p := ⟨w.heap.size, 10, none⟩) HL.out.1).trans (HR1.out 10); have kc10 : wb.cell? ⟨w3.heap.size, 10, none⟩ = some (.slice c.cu.A c.cu.l.length c.cu.c) := (HKc.out.below.cell (p := ⟨w3.heap.size, 10, none⟩) HL.out.2).trans (HR2.out 10); clear hb1))
              | (go_at_call 7; ((with_reducible refine (HFT.out _ HKc.out.below).mono ?_); rintro e wc ⟨vp2, vr2, rfl, hop2, hor2⟩; obtain ⟨Ap2, cp2, rfl, hlp2, hmp2, -⟩ := hop2.there; obtain ⟨Ar2, cr2, rfl, hlr2, hmr2, -⟩ := hor2.there; have HKd := Lib.hid (HKc.out.later hop2.below HKc.out.below.size); clear km0 kc0 km1 kc1 km2 kc2 km3 kc3 km4 kc4 km5 kc5 km6 kc6 km7 kc7 km8 kc8 km9 kc9 km10 kc10; rw [n64s_length] at *; clear hop2 hor2)))
            have hz9 := HKd.out.below.size
            have hal : Below wc.heap.size wc (wc.alloc (.cells #[.slice Ap2 ps.length cp2, .slice Ar2 rs.length cr2] 38)) := (Below.refl _ _).alloc (Nat.le_refl _) _
            have hK9 := HKd.out.later hal hz9
            have hc9 : (wc.alloc (.cells #[.slice Ap2 ps.length cp2, .slice Ar2 rs.length cr2] 38)).cell? ⟨wc.heap.size, 0, none⟩ = some (.slice Ap2 ps.length cp2) := World.cell?_alloc_at _ _ _ _ rfl
            have hs9 : wc.heap.size < (wc.alloc (.cells #[.slice Ap2 ps.length cp2, .slice Ar2 rs.length cr2] 38)).heap.size := by simp
            obtain ⟨q, hq⟩ : ∃ q : Bool, (er = .nilIface ∧ q = true) ∨ (er = .iface 68 (.int .i64 5) ∧ q = false) := by rcases HE.out with h | h; exact ⟨true, .inl ⟨h, rfl⟩⟩; exact ⟨false, .inr ⟨h, rfl⟩⟩
            have HQ := Lib.hid hq
            refine gen_seven (v2 := .pointer (some ⟨w.heap.size, 0, none⟩)) (v5 := .bool true) (v7 := .pointer (some ⟨w3.heap.size, 0, none⟩)) (v8 := .pointer (some ⟨w6.heap.size, 0, none⟩)) (v9 := er) (v12 := .pointer (some ⟨wc.heap.size, 0, none⟩)) (v13 := er) _ rfl rfl rfl rfl rfl rfl rfl rfl rfl ?_
            intro x hsz hd e2 e5 e7 e8 e9 e12 e13
            generalize (wc.alloc (.cells #[.slice Ap2 ps.length cp2, .slice Ar2 rs.length cr2] 38)) = W9 at hal hK9 hc9 hs9 ⊢
            have hb9 := hK9.below
            have hl8 := hK9.lt
            have HK9 := Lib.hid hK9
            have hz5 := hb9.size
            have HL9 := Lib.hid (show w.heap.size < W9.heap.size ∧ w3.heap.size < W9.heap.size from ⟨Nat.lt_of_lt_of_le HL.out.1 hz5, Nat.lt_of_lt_of_le HL.out.2 hz5⟩)
            have HZ5 := Lib.hid hz5
            have HB9 := Lib.hid hb9
            clear hq hz9 hal hK9 hb9 hz5 hlt hlt2 hj2 hj c1 hlt8
            refine region_vals 22 23 (VZ m c er q w6.heap.size wc.heap.size (.slice Ap ps.length cp) (.slice Ap2 ps.length cp2) ps.length) (fun i => i + 61) x W9 (by kernel_rfl) rfl (by omega) (by kernel_rfl) (by kernel_rfl) (by kernel_rfl) (by rw [hsz]; kernel_rfl) VZ.mono ?_ ?_
            · intro i hi a1 w1 hB hV
              have hbw : Below W9.heap.size W9 w1 := ((Below.refl W9.heap.size W9).drew).trans hB.below
              have hb1 : Below W5.heap.size W5 w1 := HB9.out.trans (hbw.mono HZ5.out)
              have x2 := (hB.same 2 (fun i _ => by omega)).trans e2
              have x7 := (hB.same 7 (fun i _ => by omega)).trans e7
              have z5 := ev ((hB.same 5 (fun i _ => by omega)).trans e5)
              have z8 := ev ((hB.same 8 (fun i _ => by omega)).trans e8)
              have z9 := ev ((hB.same 9 (fun i _ => by omega)).trans e9)
              have z12 := ev ((hB.same 12 (fun i _ => by omega)).trans e12)
              have z13 := ev ((hB.same 13 (fun i _ => by omega)).trans e13)
              have y8 := (hbw.cell (p := ⟨w6.heap.size, 0, none⟩) hl8).trans HK9.out.c0
              have y12 := (hbw.cell (p := ⟨wc.heap.size, 0, none⟩) hs9).trans hc9
              have r1 : w1.rangeAt w.heap.size 0 m.cells := fun k v hv => by rw [Nat.zero_add, hb1.cell (p := ⟨w.heap.size, k, none⟩) HL.out.1, HR1.out k]; simpa using hv
              have r2 : w1.rangeAt w3.heap.size 0 c.cells := fun k v hv => by rw [Nat.zero_add, hb1.cell (p := ⟨w3.heap.size, k, none⟩) HL.out.2, HR2.out k]; simpa using hv
              match i, hi with
              | 0, _ =>
                exact op_plain rfl rfl (op_val (.bool true) (by go_simp) ⟨_, rfl, Below.refl _ _, rfl⟩)
              | 1, _ =>
                have k0 := ev (show a1.eval (.tmp 61) = _ from hV ⟨0, .data⟩ (by first | exact .head _ | exact .tail _ (.head _) | exact .tail _ (.tail _ (.head _)) | exact .tail _ (.tail _ (.tail _ (.head _))) | exact .tail _ (.tail _ (.tail _ (.tail _ (.head _))))) rfl)
                exact op_plain rfl rfl (op_val (.bool true) (by go_simp) ⟨_, rfl, Below.refl _ _, rfl⟩)
              | 2, _ =>
                exact op_guardT rfl rfl rfl (show a1.eval (.tmp 62) = .bool true from hV ⟨1, .guard⟩ (by first | exact .head _ | exact .tail _ (.head _) | exact .tail _ (.tail _ (.head _)) | exact .tail _ (.tail _ (.tail _ (.head _))) | exact .tail _ (.tail _ (.tail _ (.tail _ (.head _))))) rfl) (wp_load_mid 32 (.tmp 7) rfl w3.heap.size 0 x7 c.cells _ r2 Tryz.underlying32 rfl (by kernel_rfl) ⟨_, rfl, Below.refl _ _, rfl⟩)
              | 3, _ =>
                exact op_guardT rfl rfl rfl (show a1.eval (.tmp 62) = .bool true from hV ⟨1, .guard⟩ (by first | exact .head _ | exact .tail _ (.head _) | exact .tail _ (.tail _ (.head _)) | exact .tail _ (.tail _ (.tail _ (.head _))) | exact .tail _ (.tail _ (.tail _ (.tail _ (.head _))))) rfl) (wp_load_mid 32 (.tmp 2) rfl w.heap.size 0 x2 m.cells _ r1 Tryz.underlying32 rfl (by kernel_rfl) ⟨_, rfl, Below.refl _ _, rfl⟩)
              | 4, _ =>
                have k0 := ev (show a1.eval (.tmp 63) = _ from hV ⟨2, .data⟩ (by first | exact .head _ | exact .tail _ (.head _) | exact .tail _ (.tail _ (.head _)) | exact .tail _ (.tail _ (.tail _ (.head _))) | exact .tail _ (.tail _ (.tail _ (.tail _ (.head _))))) rfl)
                have k1 := ev (show a1.eval (.tmp 64) = _ from hV ⟨3, .data⟩ (by first | exact .head _ | exact .tail _ (.head _) | exact .tail _ (.tail _ (.head _)) | exact .tail _ (.tail _ (.tail _ (.head _))) | exact .tail _ (.tail _ (.tail _ (.tail _ (.head _))))) rfl)
                have HQ2 := Lib.hid (HSr.out w1 hb1)
                refine op_guardT rfl rfl rfl (show a1.eval (.tmp 62) = .bool true from hV ⟨1, .guard⟩ (by first | exact .head _ | exact .tail _ (.head _) | exact .tail _ (.tail _ (.head _)) | exact .tail _ (.tail _ (.tail _ (.head _))) | exact .tail _ (.tail _ (.tail _ (.tail _ (.head _))))) rfl) ?_
                go_simp
                refine HQ2.out.mono ?_
                rintro e w' ⟨rfl, hb⟩
                exact ⟨_, rfl, hb, rfl⟩
              | 5, _ =>
                have k0 := ev (show a1.eval (.tmp 62) = _ from hV ⟨1, .data⟩ (by first | exact .head _ | exact .tail _ (.head _) | exact .tail _ (.tail _ (.head _)) | exact .tail _ (.tail _ (.tail _ (.head _))) | exact .tail _ (.tail _ (.tail _ (.tail _ (.head _))))) rfl)
                have k1 := ev (show a1.eval (.tmp 65) = _ from hV ⟨4, .data⟩ (by first | exact .head _ | exact .tail _ (.head _) | exact .tail _ (.tail _ (.head _)) | exact .tail _ (.tail _ (.tail _ (.head _))) | exact .tail _ (.tail _ (.tail _ (.tail _ (.head _))))) rfl)
                exact op_plain rfl rfl (op_val (.bool true) (by go_simp) ⟨_, rfl, Below.refl _ _, rfl⟩)
              | 6, _ =>
                have k0 := ev (show a1.eval (.tmp 66) = _ from hV ⟨5, .data⟩ (by first | exact .head _ | exact .tail _ (.head _) | exact .tail _ (.tail _ (.head _)) | exact .tail _ (.tail _ (.tail _ (.head _))) | exact .tail _ (.tail _ (.tail _ (.tail _ (.head _))))) rfl)
                exact op_plain rfl rfl (op_val (.bool true) (by go_simp) ⟨_, rfl, Below.refl _ _, rfl⟩)
              | 7, _ =>
                exact op_guardT rfl rfl rfl (show a1.eval (.tmp 67) = .bool true from hV ⟨6, .guard⟩ (by first | exact .head _ | exact .tail _ (.head _) | exact .tail _ (.tail _ (.head _)) | exact .tail _ (.tail _ (.tail _ (.head _))) | exact .tail _ (.tail _ (.tail _ (.tail _ (.head _))))) rfl) (op_val (er) (by go_simp) ⟨_, rfl, Below.refl _ _, rfl⟩)
              | 8, _ =>
                have k0 := ev (show a1.eval (.tmp 68) = _ from hV ⟨7, .data⟩ (by first | exact .head _ | exact .tail _ (.head _) | exact .tail _ (.tail _ (.head _)) | exact .tail _ (.tail _ (.tail _ (.head _))) | exact .tail _ (.tail _ (.tail _ (.tail _ (.head _))))) rfl)
                rcases HQ.out with ⟨rfl, rfl⟩ | ⟨rfl, rfl⟩
                · exact op_guardT rfl rfl rfl (show a1.eval (.tmp 67) = .bool true from hV ⟨6, .guard⟩ (by first | exact .head _ | exact .tail _ (.head _) | exact .tail _ (.tail _ (.head _)) | exact .tail _ (.tail _ (.tail _ (.head _))) | exact .tail _ (.tail _ (.tail _ (.tail _ (.head _))))) rfl) (op_val (.bool true) (by go_simp) ⟨_, rfl, Below.refl _ _, rfl⟩)
                · exact op_guardT rfl rfl rfl (show a1.eval (.tmp 67) = .bool true from hV ⟨6, .guard⟩ (by first | exact .head _ | exact .tail _ (.head _) | exact .tail _ (.tail _ (.head _)) | exact .tail _ (.tail _ (.tail _ (.head _))) | exact .tail _ (.tail _ (.tail _ (.tail _ (.head _))))) rfl) (op_val (.bool false) (by go_simp) ⟨_, rfl, Below.refl _ _, rfl⟩)
              | 9, _ =>
                exact op_guardT rfl rfl rfl (show a1.eval (.tmp 67) = .bool true from hV ⟨6, .guard⟩ (by first | exact .head _ | exact .tail _ (.head _) | exact .tail _ (.tail _ (.head _)) | exact .tail _ (.tail _ (.tail _ (.head _))) | exact .tail _ (.tail _ (.tail _ (.tail _ (.head _))))) rfl) (op_val (er) (by go_simp) ⟨_, rfl, Below.refl _ _, rfl⟩)
              | 10, _ =>
                have k0 := ev (show a1.eval (.tmp 70) = _ from hV ⟨9, .data⟩ (by first | exact .head _ | exact .tail _ (.head _) | exact .tail _ (.tail _ (.head _)) | exact .tail _ (.tail _ (.tail _ (.head _))) | exact .tail _ (.tail _ (.tail _ (.tail _ (.head _))))) rfl)
                rcases HQ.out with ⟨rfl, rfl⟩ | ⟨rfl, rfl⟩
                · exact op_guardT rfl rfl rfl (show a1.eval (.tmp 67) = .bool true from hV ⟨6, .guard⟩ (by first | exact .head _ | exact .tail _ (.head _) | exact .tail _ (.tail _ (.head _)) | exact .tail _ (.tail _ (.tail _ (.head _))) | exact .tail _ (.tail _ (.tail _ (.tail _ (.head _))))) rfl) (op_val (.bool true) (by go_simp) ⟨_, rfl, Below.refl _ _, rfl⟩)
                · exact op_guardT rfl rfl rfl (show a1.eval (.tmp 67) = .bool true from hV ⟨6, .guard⟩ (by first | exact .head _ | exact .tail _ (.head _) | exact .tail _ (.tail _ (.head _)) | exact .tail _ (.tail _ (.tail _ (.head _))) | exact .tail _ (.tail _ (.tail _ (.tail _ (.head _))))) rfl) (op_val (.bool false) (by go_simp) ⟨_, rfl, Below.refl _ _, rfl⟩)
              | 11, _ =>
                have k0 := ev (show a1.eval (.tmp 69) = _ from hV ⟨8, .data⟩ (by first | exact .head _ | exact .tail _ (.head _) | exact .tail _ (.tail _ (.head _)) | exact .tail _ (.tail _ (.tail _ (.head _))) | exact .tail _ (.tail _ (.tail _ (.tail _ (.head _))))) rfl)
                have k1 := ev (show a1.eval (.tmp 71) = _ from hV ⟨10, .data⟩ (by first | exact .head _ | exact .tail _ (.head _) | exact .tail _ (.tail _ (.head _)) | exact .tail _ (.tail _ (.tail _ (.head _))) | exact .tail _ (.tail _ (.tail _ (.tail _ (.head _))))) rfl)
                exact op_guardT rfl rfl rfl (show a1.eval (.tmp 67) = .bool true from hV ⟨6, .guard⟩ (by first | exact .head _ | exact .tail _ (.head _) | exact .tail _ (.tail _ (.head _)) | exact .tail _ (.tail _ (.tail _ (.head _))) | exact .tail _ (.tail _ (.tail _ (.tail _ (.head _))))) rfl) (op_val (.bool true) (by go_simp) ⟨_, rfl, Below.refl _ _, rfl⟩)
              | 12, _ =>
                have k0 := ev (show a1.eval (.tmp 67) = _ from hV ⟨6, .data⟩ (by first | exact .head _ | exact .tail _ (.head _) | exact .tail _ (.tail _ (.head _)) | exact .tail _ (.tail _ (.tail _ (.head _))) | exact .tail _ (.tail _ (.tail _ (.tail _ (.head _))))) rfl)
                have k1 := ev (show a1.eval (.tmp 72) = _ from hV ⟨11, .data⟩ (by first | exact .head _ | exact .tail _ (.head _) | exact .tail _ (.tail _ (.head _)) | exact .tail _ (.tail _ (.tail _ (.head _))) | exact .tail _ (.tail _ (.tail _ (.tail _ (.head _))))) rfl)
                exact op_plain rfl rfl (op_val (.bool true) (by go_simp) ⟨_, rfl, Below.refl _ _, rfl⟩)
              | 13, _ =>
                have k0 := ev (show a1.eval (.tmp 73) = _ from hV ⟨12, .data⟩ (by first | exact .head _ | exact .tail _ (.head _) | exact .tail _ (.tail _ (.head _)) | exact .tail _ (.tail _ (.tail _ (.head _))) | exact .tail _ (.tail _ (.tail _ (.tail _ (.head _))))) rfl)
                exact op_plain rfl rfl (op_val (.bool true) (by go_simp) ⟨_, rfl, Below.refl _ _, rfl⟩)
              | 14, _ =>
                exact op_guardT rfl rfl rfl (show a1.eval (.tmp 74) = .bool true from hV ⟨13, .guard⟩ (by first | exact .head _ | exact .tail _ (.head _) | exact .tail _ (.tail _ (.head _)) | exact .tail _ (.tail _ (.tail _ (.head _))) | exact .tail _ (.tail _ (.tail _ (.tail _ (.head _))))) rfl) (op_val (.pointer (some ⟨wc.heap.size, 0, none⟩)) (by go_simp) ⟨_, rfl, Below.refl _ _, rfl⟩)
              | 15, _ =>
                have k0 := ev (show a1.eval (.tmp 75) = _ from hV ⟨14, .data⟩ (by first | exact .head _ | exact .tail _ (.head _) | exact .tail _ (.tail _ (.head _)) | exact .tail _ (.tail _ (.tail _ (.head _))) | exact .tail _ (.tail _ (.tail _ (.tail _ (.head _))))) rfl)
                exact op_guardT rfl rfl rfl (show a1.eval (.tmp 74) = .bool true from hV ⟨13, .guard⟩ (by first | exact .head _ | exact .tail _ (.head _) | exact .tail _ (.tail _ (.head _)) | exact .tail _ (.tail _ (.tail _ (.head _))) | exact .tail _ (.tail _ (.tail _ (.tail _ (.head _))))) rfl) (op_val (.slice Ap2 ps.length cp2) (by go_simp) ⟨_, rfl, Below.refl _ _, rfl⟩)
              | 16, _ =>
                have k0 := ev (show a1.eval (.tmp 76) = _ from hV ⟨15, .data⟩ (by first | exact .head _ | exact .tail _ (.head _) | exact .tail _ (.tail _ (.head _)) | exact .tail _ (.tail _ (.tail _ (.head _))) | exact .tail _ (.tail _ (.tail _ (.tail _ (.head _))))) rfl)
                exact op_guardT rfl rfl rfl (show a1.eval (.tmp 74) = .bool true from hV ⟨13, .guard⟩ (by first | exact .head _ | exact .tail _ (.head _) | exact .tail _ (.tail _ (.head _)) | exact .tail _ (.tail _ (.tail _ (.head _))) | exact .tail _ (.tail _ (.tail _ (.tail _ (.head _))))) rfl) (op_val (.int .i64 ps.length) (by go_simp) ⟨_, rfl, Below.refl _ _, rfl⟩)
              | 17, _ =>
                exact op_guardT rfl rfl rfl (show a1.eval (.tmp 74) = .bool true from hV ⟨13, .guard⟩ (by first | exact .head _ | exact .tail _ (.head _) | exact .tail _ (.tail _ (.head _)) | exact .tail _ (.tail _ (.tail _ (.head _))) | exact .tail _ (.tail _ (.tail _ (.tail _ (.head _))))) rfl) (op_val (.pointer (some ⟨w6.heap.size, 0, none⟩)) (by go_simp) ⟨_, rfl, Below.refl _ _, rfl⟩)
              | 18, _ =>
                have k0 := ev (show a1.eval (.tmp 78) = _ from hV ⟨17, .data⟩ (by first | exact .head _ | exact .tail _ (.head _) | exact .tail _ (.tail _ (.head _)) | exact .tail _ (.tail _ (.tail _ (.head _))) | exact .tail _ (.tail _ (.tail _ (.tail _ (.head _))))) rfl)
                exact op_guardT rfl rfl rfl (show a1.eval (.tmp 74) = .bool true from hV ⟨13, .guard⟩ (by first | exact .head _ | exact .tail _ (.head _) | exact .tail _ (.tail _ (.head _)) | exact .tail _ (.tail _ (.tail _ (.head _))) | exact .tail _ (.tail _ (.tail _ (.tail _ (.head _))))) rfl) (op_val (.slice Ap ps.length cp) (by go_simp) ⟨_, rfl, Below.refl _ _, rfl⟩)
              | 19, _ =>
                have k0 := ev (show a1.eval (.tmp 79) = _ from hV ⟨18, .data⟩ (by first | exact .head _ | exact .tail _ (.head _) | exact .tail _ (.tail _ (.head _)) | exact .tail _ (.tail _ (.tail _ (.head _))) | exact .tail _ (.tail _ (.tail _ (.tail _ (.head _))))) rfl)
                exact op_guardT rfl rfl rfl (show a1.eval (.tmp 74) = .bool true from hV ⟨13, .guard⟩ (by first | exact .head _ | exact .tail _ (.head _) | exact .tail _ (.tail _ (.head _)) | exact .tail _ (.tail _ (.tail _ (.head _))) | exact .tail _ (.tail _ (.tail _ (.tail _ (.head _))))) rfl) (op_val (.int .i64 ps.length) (by go_simp) ⟨_, rfl, Below.refl _ _, rfl⟩)
              | 20, _ =>
                have k0 := ev (show a1.eval (.tmp 77) = _ from hV ⟨16, .data⟩ (by first | exact .head _ | exact .tail _ (.head _) | exact .tail _ (.tail _ (.head _)) | exact .tail _ (.tail _ (.tail _ (.head _))) | exact .tail _ (.tail _ (.tail _ (.tail _ (.head _))))) rfl)
                have k1 := ev (show a1.eval (.tmp 80) = _ from hV ⟨19, .data⟩ (by first | exact .head _ | exact .tail _ (.head _) | exact .tail _ (.tail _ (.head _)) | exact .tail _ (.tail _ (.tail _ (.head _))) | exact .tail _ (.tail _ (.tail _ (.tail _ (.head _))))) rfl)
                exact op_guardT rfl rfl rfl (show a1.eval (.tmp 74) = .bool true from hV ⟨13, .guard⟩ (by first | exact .head _ | exact .tail _ (.head _) | exact .tail _ (.tail _ (.head _)) | exact .tail _ (.tail _ (.tail _ (.head _))) | exact .tail _ (.tail _ (.tail _ (.tail _ (.head _))))) rfl) (op_val (.bool true) (by go_simp) ⟨_, rfl, Below.refl _ _, rfl⟩)
              | 21, _ =>
                have k0 := ev (show a1.eval (.tmp 74) = _ from hV ⟨13, .data⟩ (by first | exact .head _ | exact .tail _ (.head _) | exact .tail _ (.tail _ (.head _)) | exact .tail _ (.tail _ (.tail _ (.head _))) | exact .tail _ (.tail _ (.tail _ (.tail _ (.head _))))) rfl)
                have k1 := ev (show a1.eval (.tmp 81) = _ from hV ⟨20, .data⟩ (by first | exact .head _ | exact .tail _ (.head _) | exact .tail _ (.tail _ (.head _)) | exact .tail _ (.tail _ (.tail _ (.head _))) | exact .tail _ (.tail _ (.tail _ (.tail _ (.head _))))) rfl)
                exact op_plain rfl rfl (op_val (.bool true) (by go_simp) ⟨_, rfl, Below.refl _ _, rfl⟩)
              | k + 22, h => exact absurd h (by omega)
            · intro a1 w1 hB hV
              have hbw : Below W9.heap.size W9 w1 := ((Below.refl W9.heap.size W9).drew).trans hB.below
              have kz := ev (show a1.eval (.tmp 82) = .bool true from hV 21 (by omega))
              have HS1 := Lib.hid (hB.size.trans hsz)
              have hd1 := hB.defers.trans hd
              refine ready_one (i := 22) (by kernel_rfl) rfl rfl ?_
              refine op_val (.bool true) (by go_simp) ?_
              refine ready_none (by kernel_rfl) ?_
              change Exit.then _ _ _ (a1.put (some 4) (.bool true)) w1
              have u4 : (a1.put (some 4) (.bool true)).eval (.tmp 4) = .bool true := by simp [eval_put, HS1.out]
              have ud : (a1.put (some 4) (.bool true)).defers = [] := by rw [defers_put]; exact hd1
              generalize a1.put (some 4) (.bool true) = a2 at u4 ud ⊢
              have z4 := ev u4
              go_wp2_with fail
              refine bodyPost_ret (v := .bool true) (by simp [results, Tryz.results3, z4]) ud ⟨rfl, HB5.out.trans ((HB9.out.trans (hbw.mono HZ5.out)).mono HB5.out.size)⟩

end Go.Proofs.YtmdgemdollfnhaaGreatDoor
