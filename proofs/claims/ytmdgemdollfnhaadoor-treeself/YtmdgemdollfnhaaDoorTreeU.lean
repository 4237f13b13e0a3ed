/- The walk of TreeSelf. -/
import Derived.Test.YtmdgemdollfnhaaDoorTreeQR
import Derived.Test.YtmdgemdollfnhaaDoorTreeT3
import Derived.Test.YtmdgemdollfnhaaDoorTreeI
namespace Go.Proofs.YtmdgemdollfnhaaDoor
open Go.RowKit Trx

theorem all_key {α β : Type} (k : α → β) (p : α → Bool) (h : ∀ x y, k x = k y → p x = p y) : ∀ (l l' : List α), l.map k = l'.map k → l.all p = l'.all p
  | [], [], _ => rfl
  | [], _ :: _, e => by simp at e
  | _ :: _, [], e => by simp at e
  | x :: l, y :: l', e => by
    simp only [List.map_cons, List.cons.injEq] at e
    rw [List.all_cons, List.all_cons, h x y e.1, all_key k p h l l' e.2]
theorem len_key {α β : Type} (k : α → β) {l l' : List α} (h : l.map k = l'.map k) : l.length = l'.length := by have := congrArg List.length h; simpa using this
/-- whether a module is small hangs on what it says alone. -/
theorem small_key (m n : Mo) (h : keyM m = keyM n) : smallM m = smallM n := by
  obtain ⟨-, h1, h2, h3, h4, h5, h6, h7, h8, h9, h10⟩ := (keyM_iff m n).1 h
  unfold smallM fewI
  rw [all_key kTy smTy (fun x y e => by unfold kTy at e; unfold smTy; simp at e; rw [e.1, e.2]) _ _ h1,
    all_key kFn smFn (fun x y e => by unfold kFn at e; unfold smFn; simp at e; rw [e.2.1, e.2.2]) _ _ h3,
    all_key kGl smGl (fun x y e => by unfold kGl at e; unfold smGl; simp at e; rw [e.2.2]) _ _ h6,
    all_key kEl smEl (fun x y e => by unfold kEl at e; unfold smEl; simp at e; rw [e.1, e.2]) _ _ h8,
    all_key kDa smDa (fun x y e => by unfold kDa at e; unfold smDa; simp at e; rw [e.1, e.2]) _ _ h9,
    all_key kCu smCu (fun x y e => by unfold kCu at e; unfold smCu; simp at e; rw [e.1, e.2]) _ _ h10,
    len_key kTy h1, len_key kFn h3, len_key kGl h6, len_key kEl h8, len_key kDa h9, len_key kCu h10, h2, h4, h5, h7]
/-- an operation whose guard says yes. -/
theorem op_guard {P : Program} {ops : Array Oper} {Q : Exit → Act → World → Prop} {i j d : Nat} {o : Oper} {a : Act} {w : World} {K : Act → World → Prop} (ho : ops[i]? = some o) (hg : o.guard = some (j, true)) (hj : (ops[j]?).bind (·.dst) = some d) (hv : a.eval (.tmp d) = .bool true) (h : Oper.wp P o a w K Q) : wpOp P ops Q i K a w := by
  unfold wpOp
  rw [ho]
  have ht : a.tmps[d]? = some (.bool true) := by
    have := ev hv
    cases hx : a.tmps[d]? with
    | none => rw [hx] at this; simp [undef] at this
    | some u => rw [hx] at this; simp at this; rw [this]
  have hw : Region.wanted o (yielded ops a.tmps) = true := by simp [Region.wanted, hg, yielded, hj, ht]
  simp only [hw, if_true]
  exact .inl h
/-- a frame that is not looked at. -/
theorem gen_four {P : Program} {c : Code} {Q : Exit → Act → World → Prop} {w : World} (N : Nat) {v2 v3 v5 v6 : Value} (a : Act) (hs : a.tmps.size = N) (hd : a.defers = []) (h2 : a.eval (.tmp 2) = v2) (h3 : a.eval (.tmp 3) = v3) (h5 : a.eval (.tmp 5) = v5) (h6 : a.eval (.tmp 6) = v6)
    (H : ∀ a : Act, a.tmps.size = N → a.defers = [] → a.eval (.tmp 2) = v2 → a.eval (.tmp 3) = v3 → a.eval (.tmp 5) = v5 → a.eval (.tmp 6) = v6 → Code.wp P c Q a w) : Code.wp P c Q a w := H a hs hd h2 h3 h5 h6
/-- what each operation of the region leaves in its slot. -/
def VS (a b c : Mo) : Nat → Value → World → Prop
  | 0, v, _ => v = .bool true
  | 1, v, _ => v = .bool true
  | 2, v, _ => v = moV a
  | 3, v, _ => v = moV c
  | 4, v, _ => v = .bool true
  | 5, v, _ => v = .bool true
  | 6, v, _ => v = .bool true
  | 7, v, _ => v = moV a
  | 8, v, _ => v = moV b
  | 9, v, _ => ∃ q : Bool, v = .bool q ∧ (q = true ↔ keyM a = keyM b)
  | 10, v, _ => v = moV b
  | 11, v, _ => v = moV a
  | 12, v, _ => ∃ q : Bool, v = .bool q ∧ (q = true ↔ keyM b = keyM a)
  | 13, v, _ => v = .bool true
  | 14, v, _ => v = .bool true
  | 15, v, _ => v = .bool true
  | 16, v, _ => v = moV a
  | 17, v, _ => v = .bool (smallM a)
  | 18, v, _ => v = moV c
  | 19, v, _ => v = .bool (smallM a)
  | 20, v, _ => v = .bool true
  | 21, v, _ => v = .bool true
  | _, _, _ => True
theorem VS.mono {a b c : Mo} (i : Nat) (v : Value) (w w' : World) (h : VS a b c i v w) (_ : Below w.heap.size w w') : VS a b c i v w' := by
  unfold VS at *
  split at h
  all_goals exact h

set_option maxHeartbeats 16000000 in
set_option maxRecDepth 100000 in
theorem walk_TreeSelf (a b : Mo) (w : World) (ha : a.ok w w.heap.size) (hb : b.ok w w.heap.size) (hN : Nam w) :
    Calls Tryd.prog 6 #[moA a, moA b] w fun e w' => e = .returned (.bool true) ∧ Below w.heap.size w w' := by
  have HU := Lib.hid (fun w' (h : Below w.heap.size w w') => up_any w' (hN.below h))
  have HFa := Lib.hid (fun w' (h : Below w.heap.size w w') => Few_any a w' (ha.below h))
  have HFb := Lib.hid (fun w' (h : Below w.heap.size w w') => Few_any b w' (hb.below h))
  have HC := Lib.hid (fun w' (h : Below w.heap.size w w') => CopyModule_any a w' (ha.below h))
  have HA := Lib.hid ha
  have HB := Lib.hid hb
  have HN := Lib.hid hN
  unfold moA at *
  unfold moV at HC
  clear ha hb hN
  go_enter Tryd.func6, Tryd.ntmps6
  go_wp2_with (first
    | (go_at_call 7; ((with_reducible refine (HU.out _ (((Below.refl _ _).alloc (Nat.le_refl _) _).alloc (by simp) _)).mono ?_); rintro e w1 ⟨rfl, hb1⟩; have HK1 := Lib.hid (show Bxs w #[.slice a.ty.A a.ty.l.length a.ty.c, .slice a.im.A a.im.l.length a.im.c, .slice a.fn.A a.fn.l.length a.fn.c, .slice a.ta.A a.ta.l.length a.ta.c, .slice a.me.A a.me.l.length a.me.c, .slice a.gl.A a.gl.l.length a.gl.c, .slice a.ex.A a.ex.l.length a.ex.c, .int .i64 a.st, .slice a.el.A a.el.l.length a.el.c, .slice a.da.A a.da.l.length a.da.c, .slice a.cu.A a.cu.l.length a.cu.c] #[.slice b.ty.A b.ty.l.length b.ty.c, .slice b.im.A b.im.l.length b.im.c, .slice b.fn.A b.fn.l.length b.fn.c, .slice b.ta.A b.ta.l.length b.ta.c, .slice b.me.A b.me.l.length b.me.c, .slice b.gl.A b.gl.l.length b.gl.c, .slice b.ex.A b.ex.l.length b.ex.c, .int .i64 b.st, .slice b.el.A b.el.l.length b.el.c, .slice b.da.A b.da.l.length b.da.c, .slice b.cu.A b.cu.l.length b.cu.c] w1 from two_box hb1); have c0 : w1.cell? ⟨w.heap.size, 0, none⟩ = some (.slice a.ty.A a.ty.l.length a.ty.c) := HK1.out.2.1 0; have c1 : w1.cell? ⟨w.heap.size, 1, none⟩ = some (.slice a.im.A a.im.l.length a.im.c) := HK1.out.2.1 1; have c2 : w1.cell? ⟨w.heap.size, 2, none⟩ = some (.slice a.fn.A a.fn.l.length a.fn.c) := HK1.out.2.1 2; have c3 : w1.cell? ⟨w.heap.size, 3, none⟩ = some (.slice a.ta.A a.ta.l.length a.ta.c) := HK1.out.2.1 3; have c4 : w1.cell? ⟨w.heap.size, 4, none⟩ = some (.slice a.me.A a.me.l.length a.me.c) := HK1.out.2.1 4; have c5 : w1.cell? ⟨w.heap.size, 5, none⟩ = some (.slice a.gl.A a.gl.l.length a.gl.c) := HK1.out.2.1 5; have c6 : w1.cell? ⟨w.heap.size, 6, none⟩ = some (.slice a.ex.A a.ex.l.length a.ex.c) := HK1.out.2.1 6; have c7 : w1.cell? ⟨w.heap.size, 7, none⟩ = some (.int .i64 a.st) := HK1.out.2.1 7; have c8 : w1.cell? ⟨w.heap.size, 8, none⟩ = some (.slice a.el.A a.el.l.length a.el.c) := HK1.out.2.1 8; have c9 : w1.cell? ⟨w.heap.size, 9, none⟩ = some (.slice a.da.A a.da.l.length a.da.c) := HK1.out.2.1 9; have c10 : w1.cell? ⟨w.heap.size, 10, none⟩ = some (.slice a.cu.A a.cu.l.length a.cu.c) := HK1.out.2.1 10; have d0 : w1.cell? ⟨w.heap.size + 1, 0, none⟩ = some (.slice b.ty.A b.ty.l.length b.ty.c) := HK1.out.2.2.1 0; have d1 : w1.cell? ⟨w.heap.size + 1, 1, none⟩ = some (.slice b.im.A b.im.l.length b.im.c) := HK1.out.2.2.1 1; have d2 : w1.cell? ⟨w.heap.size + 1, 2, none⟩ = some (.slice b.fn.A b.fn.l.length b.fn.c) := HK1.out.2.2.1 2; have d3 : w1.cell? ⟨w.heap.size + 1, 3, none⟩ = some (.slice b.ta.A b.ta.l.length b.ta.c) := HK1.out.2.2.1 3; have d4 : w1.cell? ⟨w.heap.size + 1, 4, none⟩ = some (.slice b.me.A b.me.l.length b.me.c) := HK1.out.2.2.1 4; have d5 : w1.cell? ⟨w.heap.size + 1, 5, none⟩ = some (.slice b.gl.A b.gl.l.length b.gl.c) := HK1.out.2.2.1 5; have d6 : w1.cell? ⟨w.heap.size + 1, 6, none⟩ = some (.slice b.ex.A b.ex.l.length b.ex.c) := HK1.out.2.2.1 6; have d7 : w1.cell? ⟨w.heap.size + 1, 7, none⟩ = some (.int .i64 b.st) := HK1.out.2.2.1 7; have d8 : w1.cell? ⟨w.heap.size + 1, 8, none⟩ = some (.slice b.el.A b.el.l.length b.el.c) := HK1.out.2.2.1 8; have d9 : w1.cell? ⟨w.heap.size + 1, 9, none⟩ = some (.slice b.da.A b.da.l.length b.da.c) := HK1.out.2.2.1 9; have d10 : w1.cell? ⟨w.heap.size + 1, 10, none⟩ = some (.slice b.cu.A b.cu.l.length b.cu.c) := HK1.out.2.2.1 10; have hl1 := HK1.out.1; clear hb1))
    | (go_at_call 12; ((with_reducible refine (HFa.out _ HK1.out.bel).mono ?_); rintro e w2 ⟨⟨f2, rfl⟩, hb1⟩; have HK2 := Lib.hid (HK1.out.next hb1); clear c0 d0 c1 d1 c2 d2 c3 d3 c4 d4 c5 d5 c6 d6 c7 d7 c8 d8 c9 d9 c10 d10; have c0 : w2.cell? ⟨w.heap.size, 0, none⟩ = some (.slice a.ty.A a.ty.l.length a.ty.c) := HK2.out.2.1 0; have c1 : w2.cell? ⟨w.heap.size, 1, none⟩ = some (.slice a.im.A a.im.l.length a.im.c) := HK2.out.2.1 1; have c2 : w2.cell? ⟨w.heap.size, 2, none⟩ = some (.slice a.fn.A a.fn.l.length a.fn.c) := HK2.out.2.1 2; have c3 : w2.cell? ⟨w.heap.size, 3, none⟩ = some (.slice a.ta.A a.ta.l.length a.ta.c) := HK2.out.2.1 3; have c4 : w2.cell? ⟨w.heap.size, 4, none⟩ = some (.slice a.me.A a.me.l.length a.me.c) := HK2.out.2.1 4; have c5 : w2.cell? ⟨w.heap.size, 5, none⟩ = some (.slice a.gl.A a.gl.l.length a.gl.c) := HK2.out.2.1 5; have c6 : w2.cell? ⟨w.heap.size, 6, none⟩ = some (.slice a.ex.A a.ex.l.length a.ex.c) := HK2.out.2.1 6; have c7 : w2.cell? ⟨w.heap.size, 7, none⟩ = some (.int .i64 a.st) := HK2.out.2.1 7; have c8 : w2.cell? ⟨w.heap.size, 8, none⟩ = some (.slice a.el.A a.el.l.length a.el.c) := HK2.out.2.1 8; have c9 : w2.cell? ⟨w.heap.size, 9, none⟩ = some (.slice a.da.A a.da.l.length a.da.c) := HK2.out.2.1 9; have c10 : w2.cell? ⟨w.heap.size, 10, none⟩ = some (.slice a.cu.A a.cu.l.length a.cu.c) := HK2.out.2.1 10; have d0 : w2.cell? ⟨w.heap.size + 1, 0, none⟩ = some (.slice b.ty.A b.ty.l.length b.ty.c) := HK2.out.2.2.1 0; have d1 : w2.cell? ⟨w.heap.size + 1, 1, none⟩ = some (.slice b.im.A b.im.l.length b.im.c) := HK2.out.2.2.1 1; have d2 : w2.cell? ⟨w.heap.size + 1, 2, none⟩ = some (.slice b.fn.A b.fn.l.length b.fn.c) := HK2.out.2.2.1 2; have d3 : w2.cell? ⟨w.heap.size + 1, 3, none⟩ = some (.slice b.ta.A b.ta.l.length b.ta.c) := HK2.out.2.2.1 3; have d4 : w2.cell? ⟨w.heap.size + 1, 4, none⟩ = some (.slice b.me.A b.me.l.length b.me.c) := HK2.out.2.2.1 4; have d5 : w2.cell? ⟨w.heap.size + 1, 5, none⟩ = some (.slice b.gl.A b.gl.l.length b.gl.c) := HK2.out.2.2.1 5; have d6 : w2.cell? ⟨w.heap.size + 1, 6, none⟩ = some (.slice b.ex.A b.ex.l.length b.ex.c) := HK2.out.2.2.1 6; have d7 : w2.cell? ⟨w.heap.size + 1, 7, none⟩ = some (.int .i64 b.st) := HK2.out.2.2.1 7; have d8 : w2.cell? ⟨w.heap.size + 1, 8, none⟩ = some (.slice b.el.A b.el.l.length b.el.c) := HK2.out.2.2.1 8; have d9 : w2.cell? ⟨w.heap.size + 1, 9, none⟩ = some (.slice b.da.A b.da.l.length b.da.c) := HK2.out.2.2.1 9; have d10 : w2.cell? ⟨w.heap.size + 1, 10, none⟩ = some (.slice b.cu.A b.cu.l.length b.cu.c) := HK2.out.2.2.1 10; have hl2 := HK2.out.1; clear hb1))
    | (go_at_call 12; ((with_reducible refine (HFb.out _ HK2.out.bel).mono ?_); rintro e w3 ⟨⟨f3, rfl⟩, hb1⟩; have HK3 := Lib.hid (HK2.out.next hb1); clear c0 d0 c1 d1 c2 d2 c3 d3 c4 d4 c5 d5 c6 d6 c7 d7 c8 d8 c9 d9 c10 d10; have c0 : w3.cell? ⟨w.heap.size, 0, none⟩ = some (.slice a.ty.A a.ty.l.length a.ty.c) := HK3.out.2.1 0; have c1 : w3.cell? ⟨w.heap.size, 1, none⟩ = some (.slice a.im.A a.im.l.length a.im.c) := HK3.out.2.1 1; have c2 : w3.cell? ⟨w.heap.size, 2, none⟩ = some (.slice a.fn.A a.fn.l.length a.fn.c) := HK3.out.2.1 2; have c3 : w3.cell? ⟨w.heap.size, 3, none⟩ = some (.slice a.ta.A a.ta.l.length a.ta.c) := HK3.out.2.1 3; have c4 : w3.cell? ⟨w.heap.size, 4, none⟩ = some (.slice a.me.A a.me.l.length a.me.c) := HK3.out.2.1 4; have c5 : w3.cell? ⟨w.heap.size, 5, none⟩ = some (.slice a.gl.A a.gl.l.length a.gl.c) := HK3.out.2.1 5; have c6 : w3.cell? ⟨w.heap.size, 6, none⟩ = some (.slice a.ex.A a.ex.l.length a.ex.c) := HK3.out.2.1 6; have c7 : w3.cell? ⟨w.heap.size, 7, none⟩ = some (.int .i64 a.st) := HK3.out.2.1 7; have c8 : w3.cell? ⟨w.heap.size, 8, none⟩ = some (.slice a.el.A a.el.l.length a.el.c) := HK3.out.2.1 8; have c9 : w3.cell? ⟨w.heap.size, 9, none⟩ = some (.slice a.da.A a.da.l.length a.da.c) := HK3.out.2.1 9; have c10 : w3.cell? ⟨w.heap.size, 10, none⟩ = some (.slice a.cu.A a.cu.l.length a.cu.c) := HK3.out.2.1 10; have d0 : w3.cell? ⟨w.heap.size + 1, 0, none⟩ = some (.slice b.ty.A b.ty.l.length b.ty.c) := HK3.out.2.2.1 0; have d1 : w3.cell? ⟨w.heap.size + 1, 1, none⟩ = some (.slice b.im.A b.im.l.length b.im.c) := HK3.out.2.2.1 1; have d2 : w3.cell? ⟨w.heap.size + 1, 2, none⟩ = some (.slice b.fn.A b.fn.l.length b.fn.c) := HK3.out.2.2.1 2; have d3 : w3.cell? ⟨w.heap.size + 1, 3, none⟩ = some (.slice b.ta.A b.ta.l.length b.ta.c) := HK3.out.2.2.1 3; have d4 : w3.cell? ⟨w.heap.size + 1, 4, none⟩ = some (.slice b.me.A b.me.l.length b.me.c) := HK3.out.2.2.1 4; have d5 : w3.cell? ⟨w.heap.size + 1, 5, none⟩ = some (.slice b.gl.A b.gl.l.length b.gl.c) := HK3.out.2.2.1 5; have d6 : w3.cell? ⟨w.heap.size + 1, 6, none⟩ = some (.slice b.ex.A b.ex.l.length b.ex.c) := HK3.out.2.2.1 6; have d7 : w3.cell? ⟨w.heap.size + 1, 7, none⟩ = some (.int .i64 b.st) := HK3.out.2.2.1 7; have d8 : w3.cell? ⟨w.heap.size + 1, 8, none⟩ = some (.slice b.el.A b.el.l.length b.el.c) := HK3.out.2.2.1 8; have d9 : w3.cell? ⟨w.heap.size + 1, 9, none⟩ = some (.slice b.da.A b.da.l.length b.da.c) := HK3.out.2.2.1 9; have d10 : w3.cell? ⟨w.heap.size + 1, 10, none⟩ = some (.slice b.cu.A b.cu.l.length b.cu.c) := HK3.out.2.2.1 10; have hl3 := HK3.out.1; clear hb1))
    | (go_at_call 19; ((with_reducible refine (HC.out _ HK3.out.bel).mono ?_); rintro e w4 ⟨c, rfl, hok, hkey, hb1⟩; have HK4 := Lib.hid (HK3.out.next hb1); clear c0 d0 c1 d1 c2 d2 c3 d3 c4 d4 c5 d5 c6 d6 c7 d7 c8 d8 c9 d9 c10 d10; have c0 : w4.cell? ⟨w.heap.size, 0, none⟩ = some (.slice a.ty.A a.ty.l.length a.ty.c) := HK4.out.2.1 0; have c1 : w4.cell? ⟨w.heap.size, 1, none⟩ = some (.slice a.im.A a.im.l.length a.im.c) := HK4.out.2.1 1; have c2 : w4.cell? ⟨w.heap.size, 2, none⟩ = some (.slice a.fn.A a.fn.l.length a.fn.c) := HK4.out.2.1 2; have c3 : w4.cell? ⟨w.heap.size, 3, none⟩ = some (.slice a.ta.A a.ta.l.length a.ta.c) := HK4.out.2.1 3; have c4 : w4.cell? ⟨w.heap.size, 4, none⟩ = some (.slice a.me.A a.me.l.length a.me.c) := HK4.out.2.1 4; have c5 : w4.cell? ⟨w.heap.size, 5, none⟩ = some (.slice a.gl.A a.gl.l.length a.gl.c) := HK4.out.2.1 5; have c6 : w4.cell? ⟨w.heap.size, 6, none⟩ = some (.slice a.ex.A a.ex.l.length a.ex.c) := HK4.out.2.1 6; have c7 : w4.cell? ⟨w.heap.size, 7, none⟩ = some (.int .i64 a.st) := HK4.out.2.1 7; have c8 : w4.cell? ⟨w.heap.size, 8, none⟩ = some (.slice a.el.A a.el.l.length a.el.c) := HK4.out.2.1 8; have c9 : w4.cell? ⟨w.heap.size, 9, none⟩ = some (.slice a.da.A a.da.l.length a.da.c) := HK4.out.2.1 9; have c10 : w4.cell? ⟨w.heap.size, 10, none⟩ = some (.slice a.cu.A a.cu.l.length a.cu.c) := HK4.out.2.1 10; have d0 : w4.cell? ⟨w.heap.size + 1, 0, none⟩ = some (.slice b.ty.A b.ty.l.length b.ty.c) := HK4.out.2.2.1 0; have d1 : w4.cell? ⟨w.heap.size + 1, 1, none⟩ = some (.slice b.im.A b.im.l.length b.im.c) := HK4.out.2.2.1 1; have d2 : w4.cell? ⟨w.heap.size + 1, 2, none⟩ = some (.slice b.fn.A b.fn.l.length b.fn.c) := HK4.out.2.2.1 2; have d3 : w4.cell? ⟨w.heap.size + 1, 3, none⟩ = some (.slice b.ta.A b.ta.l.length b.ta.c) := HK4.out.2.2.1 3; have d4 : w4.cell? ⟨w.heap.size + 1, 4, none⟩ = some (.slice b.me.A b.me.l.length b.me.c) := HK4.out.2.2.1 4; have d5 : w4.cell? ⟨w.heap.size + 1, 5, none⟩ = some (.slice b.gl.A b.gl.l.length b.gl.c) := HK4.out.2.2.1 5; have d6 : w4.cell? ⟨w.heap.size + 1, 6, none⟩ = some (.slice b.ex.A b.ex.l.length b.ex.c) := HK4.out.2.2.1 6; have d7 : w4.cell? ⟨w.heap.size + 1, 7, none⟩ = some (.int .i64 b.st) := HK4.out.2.2.1 7; have d8 : w4.cell? ⟨w.heap.size + 1, 8, none⟩ = some (.slice b.el.A b.el.l.length b.el.c) := HK4.out.2.2.1 8; have d9 : w4.cell? ⟨w.heap.size + 1, 9, none⟩ = some (.slice b.da.A b.da.l.length b.da.c) := HK4.out.2.2.1 9; have d10 : w4.cell? ⟨w.heap.size + 1, 10, none⟩ = some (.slice b.cu.A b.cu.l.length b.cu.c) := HK4.out.2.2.1 10; have hl4 := HK4.out.1; have HOk := Lib.hid hok; have HKey := Lib.hid hkey; clear hb1 hok hkey)))
  · go_ret
    exact ⟨rfl, HK3.out.bel⟩
  · clear c0 d0 c1 d1 c2 d2 c3 d3 c4 d4 c5 d5 c6 d6 c7 d7 c8 d8 c9 d9 c10 d10
    refine gen_four 41 (v2 := .pointer (some ⟨w.heap.size, 0, none⟩)) (v3 := .pointer (some ⟨w.heap.size + 1, 0, none⟩)) (v5 := .bool true) (v6 := .pointer (some ⟨w4.heap.size, 0, none⟩)) _ rfl rfl rfl rfl rfl rfl ?_
    intro x hsz hd e2 e3 e5 e6
    have hal : Below w4.heap.size w4 (w4.alloc (.cells #[.slice c.ty.A c.ty.l.length c.ty.c, .slice c.im.A c.im.l.length c.im.c, .slice c.fn.A c.fn.l.length c.fn.c, .slice c.ta.A c.ta.l.length c.ta.c, .slice c.me.A c.me.l.length c.me.c, .slice c.gl.A c.gl.l.length c.gl.c, .slice c.ex.A c.ex.l.length c.ex.c, .int .i64 c.st, .slice c.el.A c.el.l.length c.el.c, .slice c.da.A c.da.l.length c.da.c, .slice c.cu.A c.cu.l.length c.cu.c] 37)) := (Below.refl _ _).alloc (Nat.le_refl _) _
    have hbel : Below w.heap.size w (w4.alloc (.cells #[.slice c.ty.A c.ty.l.length c.ty.c, .slice c.im.A c.im.l.length c.im.c, .slice c.fn.A c.fn.l.length c.fn.c, .slice c.ta.A c.ta.l.length c.ta.c, .slice c.me.A c.me.l.length c.me.c, .slice c.gl.A c.gl.l.length c.gl.c, .slice c.ex.A c.ex.l.length c.ex.c, .int .i64 c.st, .slice c.el.A c.el.l.length c.el.c, .slice c.da.A c.da.l.length c.da.c, .slice c.cu.A c.cu.l.length c.cu.c] 37)) := HK4.out.bel.trans (hal.mono HK4.out.bel.size)
    have hR1 : (w4.alloc (.cells #[.slice c.ty.A c.ty.l.length c.ty.c, .slice c.im.A c.im.l.length c.im.c, .slice c.fn.A c.fn.l.length c.fn.c, .slice c.ta.A c.ta.l.length c.ta.c, .slice c.me.A c.me.l.length c.me.c, .slice c.gl.A c.gl.l.length c.gl.c, .slice c.ex.A c.ex.l.length c.ex.c, .int .i64 c.st, .slice c.el.A c.el.l.length c.el.c, .slice c.da.A c.da.l.length c.da.c, .slice c.cu.A c.cu.l.length c.cu.c] 37)).rangeAt w.heap.size 0 a.cells := fun k v hv => by rw [Nat.zero_add, hal.cell (p := ⟨w.heap.size, k, none⟩) (by show w.heap.size < _; omega), HK4.out.2.1 k]; simpa using hv
    have hR2 : (w4.alloc (.cells #[.slice c.ty.A c.ty.l.length c.ty.c, .slice c.im.A c.im.l.length c.im.c, .slice c.fn.A c.fn.l.length c.fn.c, .slice c.ta.A c.ta.l.length c.ta.c, .slice c.me.A c.me.l.length c.me.c, .slice c.gl.A c.gl.l.length c.gl.c, .slice c.ex.A c.ex.l.length c.ex.c, .int .i64 c.st, .slice c.el.A c.el.l.length c.el.c, .slice c.da.A c.da.l.length c.da.c, .slice c.cu.A c.cu.l.length c.cu.c] 37)).rangeAt (w.heap.size + 1) 0 b.cells := fun k v hv => by rw [Nat.zero_add, hal.cell (p := ⟨w.heap.size + 1, k, none⟩) (by show w.heap.size + 1 < _; omega), HK4.out.2.2.1 k]; simpa using hv
    have hR3 : (w4.alloc (.cells #[.slice c.ty.A c.ty.l.length c.ty.c, .slice c.im.A c.im.l.length c.im.c, .slice c.fn.A c.fn.l.length c.fn.c, .slice c.ta.A c.ta.l.length c.ta.c, .slice c.me.A c.me.l.length c.me.c, .slice c.gl.A c.gl.l.length c.gl.c, .slice c.ex.A c.ex.l.length c.ex.c, .int .i64 c.st, .slice c.el.A c.el.l.length c.el.c, .slice c.da.A c.da.l.length c.da.c, .slice c.cu.A c.cu.l.length c.cu.c] 37)).rangeAt w4.heap.size 0 c.cells := fun k v hv => by rw [Nat.zero_add, World.cell?_alloc_at _ _ _ _ rfl]; simpa using hv
    have hS : (w4.alloc (.cells #[.slice c.ty.A c.ty.l.length c.ty.c, .slice c.im.A c.im.l.length c.im.c, .slice c.fn.A c.fn.l.length c.fn.c, .slice c.ta.A c.ta.l.length c.ta.c, .slice c.me.A c.me.l.length c.me.c, .slice c.gl.A c.gl.l.length c.gl.c, .slice c.ex.A c.ex.l.length c.ex.c, .int .i64 c.st, .slice c.el.A c.el.l.length c.el.c, .slice c.da.A c.da.l.length c.da.c, .slice c.cu.A c.cu.l.length c.cu.c] 37)).heap.size = w4.heap.size + 1 := by simp
    have hOa := HA.out.below hbel
    have hOb := HB.out.below hbel
    have hOc := HOk.out.below hal
    have hNw := HN.out.below hbel
    generalize w4.alloc (.cells #[.slice c.ty.A c.ty.l.length c.ty.c, .slice c.im.A c.im.l.length c.im.c, .slice c.fn.A c.fn.l.length c.fn.c, .slice c.ta.A c.ta.l.length c.ta.c, .slice c.me.A c.me.l.length c.me.c, .slice c.gl.A c.gl.l.length c.gl.c, .slice c.ex.A c.ex.l.length c.ex.c, .int .i64 c.st, .slice c.el.A c.el.l.length c.el.c, .slice c.da.A c.da.l.length c.da.c, .slice c.cu.A c.cu.l.length c.cu.c] 37) = W at hbel hR1 hR2 hR3 hS hOa hOb hOc hNw ⊢
    have h4 := HK4.out.bel.size
    have hkey := HKey.out
    have HS := Lib.hid hS
    have HSl := Lib.hid (show w.heap.size < W.heap.size ∧ w.heap.size + 1 < W.heap.size ∧ w4.heap.size < W.heap.size by omega)
    have HKe := Lib.hid hkey
    clear hS hkey hal
    refine region_vals 22 23 (VS a b c) (fun i => i + 19) x W (by kernel_rfl) rfl (by omega) (by kernel_rfl) (by kernel_rfl) (by kernel_rfl) (by rw [hsz]; kernel_rfl) VS.mono ?_ ?_
    · intro i hi a1 w1 hB hV
      have hbw : Below W.heap.size W w1 := ((Below.refl W.heap.size W).drew).trans hB.below
      have x2 := (hB.same 2 (fun i _ => by omega)).trans e2
      have x3 := (hB.same 3 (fun i _ => by omega)).trans e3
      have x6 := (hB.same 6 (fun i _ => by omega)).trans e6
      have z5 := ev ((hB.same 5 (fun i _ => by omega)).trans e5)
      have r1 : w1.rangeAt w.heap.size 0 a.cells := fun k v hv => (hbw.cell (p := ⟨w.heap.size, 0 + k, none⟩) HSl.out.1).trans (hR1 k v hv)
      have r2 : w1.rangeAt (w.heap.size + 1) 0 b.cells := fun k v hv => (hbw.cell (p := ⟨w.heap.size + 1, 0 + k, none⟩) HSl.out.2.1).trans (hR2 k v hv)
      have r3 : w1.rangeAt w4.heap.size 0 c.cells := fun k v hv => (hbw.cell (p := ⟨w4.heap.size, 0 + k, none⟩) HSl.out.2.2).trans (hR3 k v hv)
      have oa := hOa.below hbw
      have ob := hOb.below hbw
      have oc := hOc.below hbw
      have on := hNw.below hbw
      match i, hi with
      | 0, _ =>
        exact op_plain rfl rfl (op_val (.bool true) (by go_simp) ⟨_, rfl, Below.refl _ _, rfl⟩)
      | 1, _ =>
        have k0 := ev (show a1.eval (.tmp 19) = _ from hV ⟨0, .data⟩ (.head _) rfl)
        exact op_plain rfl rfl (op_val (.bool true) (by go_simp) ⟨_, rfl, Below.refl _ _, rfl⟩)
      | 2, _ =>
        exact op_guard rfl rfl rfl (show a1.eval (.tmp 20) = .bool true from hV ⟨1, .guard⟩ (.head _) rfl) (wp_load_mid 37 (.tmp 2) rfl w.heap.size 0 x2 a.cells _ r1 Tryd.underlying37 rfl (by kernel_rfl) ⟨_, rfl, Below.refl _ _, rfl⟩)
      | 3, _ =>
        exact op_guard rfl rfl rfl (show a1.eval (.tmp 20) = .bool true from hV ⟨1, .guard⟩ (.head _) rfl) (wp_load_mid 37 (.tmp 6) rfl w4.heap.size 0 x6 c.cells _ r3 Tryd.underlying37 rfl (by kernel_rfl) ⟨_, rfl, Below.refl _ _, rfl⟩)
      | 4, _ =>
        have k0 := ev (show a1.eval (.tmp 21) = _ from hV ⟨2, .data⟩ (.head _) rfl)
        have k1 := ev (show a1.eval (.tmp 22) = _ from hV ⟨3, .data⟩ (.tail _ (.head _)) rfl)
        have HQ := Lib.hid (Same_any a c w1 oa oc)
        refine op_guard rfl rfl rfl (show a1.eval (.tmp 20) = .bool true from hV ⟨1, .guard⟩ (.tail _ (.tail _ (.tail _ (.head _)))) rfl) ?_
        go_simp
        refine HQ.out.mono ?_
        rintro e w' ⟨⟨q, rfl, hq⟩, hb⟩
        exact ⟨_, rfl, hb, congrArg Value.bool (hq.2 HKe.out.symm)⟩
      | 5, _ =>
        have k0 := ev (show a1.eval (.tmp 20) = _ from hV ⟨1, .data⟩ (.head _) rfl)
        have k1 := ev (show a1.eval (.tmp 23) = _ from hV ⟨4, .data⟩ (.tail _ (.head _)) rfl)
        exact op_plain rfl rfl (op_val (.bool true) (by go_simp) ⟨_, rfl, Below.refl _ _, rfl⟩)
      | 6, _ =>
        have k0 := ev (show a1.eval (.tmp 24) = _ from hV ⟨5, .data⟩ (.head _) rfl)
        exact op_plain rfl rfl (op_val (.bool true) (by go_simp) ⟨_, rfl, Below.refl _ _, rfl⟩)
      | 7, _ =>
        exact op_guard rfl rfl rfl (show a1.eval (.tmp 25) = .bool true from hV ⟨6, .guard⟩ (.head _) rfl) (wp_load_mid 37 (.tmp 2) rfl w.heap.size 0 x2 a.cells _ r1 Tryd.underlying37 rfl (by kernel_rfl) ⟨_, rfl, Below.refl _ _, rfl⟩)
      | 8, _ =>
        exact op_guard rfl rfl rfl (show a1.eval (.tmp 25) = .bool true from hV ⟨6, .guard⟩ (.head _) rfl) (wp_load_mid 37 (.tmp 3) rfl (w.heap.size + 1) 0 x3 b.cells _ r2 Tryd.underlying37 rfl (by kernel_rfl) ⟨_, rfl, Below.refl _ _, rfl⟩)
      | 9, _ =>
        have k0 := ev (show a1.eval (.tmp 26) = _ from hV ⟨7, .data⟩ (.head _) rfl)
        have k1 := ev (show a1.eval (.tmp 27) = _ from hV ⟨8, .data⟩ (.tail _ (.head _)) rfl)
        have HQ := Lib.hid (Same_any a b w1 oa ob)
        refine op_guard rfl rfl rfl (show a1.eval (.tmp 25) = .bool true from hV ⟨6, .guard⟩ (.tail _ (.tail _ (.tail _ (.head _)))) rfl) ?_
        go_simp
        refine HQ.out.mono ?_
        rintro e w' ⟨⟨q, rfl, hq⟩, hb⟩
        exact ⟨_, rfl, hb, q, rfl, hq⟩
      | 10, _ =>
        exact op_guard rfl rfl rfl (show a1.eval (.tmp 25) = .bool true from hV ⟨6, .guard⟩ (.head _) rfl) (wp_load_mid 37 (.tmp 3) rfl (w.heap.size + 1) 0 x3 b.cells _ r2 Tryd.underlying37 rfl (by kernel_rfl) ⟨_, rfl, Below.refl _ _, rfl⟩)
      | 11, _ =>
        exact op_guard rfl rfl rfl (show a1.eval (.tmp 25) = .bool true from hV ⟨6, .guard⟩ (.head _) rfl) (wp_load_mid 37 (.tmp 2) rfl w.heap.size 0 x2 a.cells _ r1 Tryd.underlying37 rfl (by kernel_rfl) ⟨_, rfl, Below.refl _ _, rfl⟩)
      | 12, _ =>
        have k0 := ev (show a1.eval (.tmp 29) = _ from hV ⟨10, .data⟩ (.head _) rfl)
        have k1 := ev (show a1.eval (.tmp 30) = _ from hV ⟨11, .data⟩ (.tail _ (.head _)) rfl)
        have HQ := Lib.hid (Same_any b a w1 ob oa)
        refine op_guard rfl rfl rfl (show a1.eval (.tmp 25) = .bool true from hV ⟨6, .guard⟩ (.tail _ (.tail _ (.tail _ (.head _)))) rfl) ?_
        go_simp
        refine HQ.out.mono ?_
        rintro e w' ⟨⟨q, rfl, hq⟩, hb⟩
        exact ⟨_, rfl, hb, q, rfl, hq⟩
      | 13, _ =>
        obtain ⟨q1, k0, hq1⟩ : ∃ q : Bool, a1.eval (.tmp 28) = .bool q ∧ (q = true ↔ keyM a = keyM b) := hV ⟨9, .data⟩ (.head _) rfl
        obtain ⟨q2, k1, hq2⟩ : ∃ q : Bool, a1.eval (.tmp 31) = .bool q ∧ (q = true ↔ keyM b = keyM a) := hV ⟨12, .data⟩ (.tail _ (.head _)) rfl
        obtain rfl : q1 = q2 := Bool.eq_iff_iff.2 (hq1.trans (eq_comm.trans hq2.symm))
        have k0 := ev k0
        have k1 := ev k1
        exact op_guard rfl rfl rfl (show a1.eval (.tmp 25) = .bool true from hV ⟨6, .guard⟩ (.tail _ (.tail _ (.head _))) rfl) (op_val (.bool true) (by go_simp) ⟨_, rfl, Below.refl _ _, rfl⟩)
      | 14, _ =>
        have k0 := ev (show a1.eval (.tmp 25) = _ from hV ⟨6, .data⟩ (.head _) rfl)
        have k1 := ev (show a1.eval (.tmp 32) = _ from hV ⟨13, .data⟩ (.tail _ (.head _)) rfl)
        exact op_plain rfl rfl (op_val (.bool true) (by go_simp) ⟨_, rfl, Below.refl _ _, rfl⟩)
      | 15, _ =>
        have k0 := ev (show a1.eval (.tmp 33) = _ from hV ⟨14, .data⟩ (.head _) rfl)
        exact op_plain rfl rfl (op_val (.bool true) (by go_simp) ⟨_, rfl, Below.refl _ _, rfl⟩)
      | 16, _ =>
        exact op_guard rfl rfl rfl (show a1.eval (.tmp 34) = .bool true from hV ⟨15, .guard⟩ (.head _) rfl) (wp_load_mid 37 (.tmp 2) rfl w.heap.size 0 x2 a.cells _ r1 Tryd.underlying37 rfl (by kernel_rfl) ⟨_, rfl, Below.refl _ _, rfl⟩)
      | 17, _ =>
        have k0 := ev (show a1.eval (.tmp 35) = _ from hV ⟨16, .data⟩ (.head _) rfl)
        have HQ := Lib.hid (Small_any a w1 on oa)
        refine op_guard rfl rfl rfl (show a1.eval (.tmp 34) = .bool true from hV ⟨15, .guard⟩ (.tail _ (.tail _ (.head _))) rfl) ?_
        go_simp
        refine HQ.out.mono ?_
        rintro e w' ⟨rfl, hb⟩
        exact ⟨_, rfl, hb, rfl⟩
      | 18, _ =>
        exact op_guard rfl rfl rfl (show a1.eval (.tmp 34) = .bool true from hV ⟨15, .guard⟩ (.head _) rfl) (wp_load_mid 37 (.tmp 6) rfl w4.heap.size 0 x6 c.cells _ r3 Tryd.underlying37 rfl (by kernel_rfl) ⟨_, rfl, Below.refl _ _, rfl⟩)
      | 19, _ =>
        have k0 := ev (show a1.eval (.tmp 37) = _ from hV ⟨18, .data⟩ (.head _) rfl)
        have HQ := Lib.hid (Small_any c w1 on oc)
        refine op_guard rfl rfl rfl (show a1.eval (.tmp 34) = .bool true from hV ⟨15, .guard⟩ (.tail _ (.tail _ (.head _))) rfl) ?_
        go_simp
        refine HQ.out.mono ?_
        rintro e w' ⟨rfl, hb⟩
        exact ⟨_, rfl, hb, congrArg Value.bool (small_key c a HKe.out)⟩
      | 20, _ =>
        have k0 := ev (show a1.eval (.tmp 36) = _ from hV ⟨17, .data⟩ (.head _) rfl)
        have k1 := ev (show a1.eval (.tmp 38) = _ from hV ⟨19, .data⟩ (.tail _ (.head _)) rfl)
        exact op_guard rfl rfl rfl (show a1.eval (.tmp 34) = .bool true from hV ⟨15, .guard⟩ (.tail _ (.tail _ (.head _))) rfl) (op_val (.bool true) (by go_simp) ⟨_, rfl, Below.refl _ _, rfl⟩)
      | 21, _ =>
        have k0 := ev (show a1.eval (.tmp 34) = _ from hV ⟨15, .data⟩ (.head _) rfl)
        have k1 := ev (show a1.eval (.tmp 39) = _ from hV ⟨20, .data⟩ (.tail _ (.head _)) rfl)
        exact op_plain rfl rfl (op_val (.bool true) (by go_simp) ⟨_, rfl, Below.refl _ _, rfl⟩)
      | n + 22, h => exact absurd h (by omega)
    · intro a1 w1 hB hV
      have hbw : Below W.heap.size W w1 := ((Below.refl W.heap.size W).drew).trans hB.below
      have k21 := ev (show a1.eval (.tmp 40) = .bool true from hV 21 (by omega))
      have HS1 := Lib.hid (hB.size.trans hsz)
      have hd1 := hB.defers.trans hd
      refine ready_one (i := 22) (by kernel_rfl) rfl rfl ?_
      refine op_val (.bool true) (by go_simp) ?_
      refine ready_none (by kernel_rfl) ?_
      change Exit.then _ _ _ (a1.put (some 4) (.bool true)) w1
      have u4 : (a1.put (some 4) (.bool true)).eval (.tmp 4) = .bool true := by simp [eval_put, HS1.out]
      have ud : (a1.put (some 4) (.bool true)).defers = [] := by rw [defers_put]; exact hd1
      generalize a1.put (some 4) (.bool true) = a2 at u4 ud ⊢
      have z4 := ev u4
      go_wp2_with fail
      refine bodyPost_ret (v := .bool true) (by simp [results, Tryd.results6, z4]) ud ⟨rfl, hbel.trans (hbw.mono hbel.size)⟩
  · go_ret
    exact ⟨rfl, HK2.out.bel⟩
end Go.Proofs.YtmdgemdollfnhaaDoor
