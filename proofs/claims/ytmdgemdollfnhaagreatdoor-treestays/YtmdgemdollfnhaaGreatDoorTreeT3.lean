/- Contracts of fewItems and Small. -/
import Derived.Test.YtmdgemdollfnhaaGreatDoorTreeT2
import Derived.Test.YtmdgemdollfnhaaGreatDoorTreeS6
namespace Go.Proofs.YtmdgemdollfnhaaGreatDoor
open Go.RowKit Trx

def mx2 (x y : Int) : Int := if y > x then y else x
def mx9 (a b c d e f g h i : Int) : Int := mx2 (mx2 (mx2 (mx2 (mx2 (mx2 (mx2 (mx2 a b) c) d) e) f) g) h) i
@[go_sem high] theorem run_max_int9 {P : Program} {w : World} (ts : Array TypeId) (t : TypeId) (a b c d e f g h i : Int) : (Builtin.max_ ts t #[.int .i64 a, .int .i64 b, .int .i64 c, .int .i64 d, .int .i64 e, .int .i64 f, .int .i64 g, .int .i64 h, .int .i64 i]).run P w = .ok (.int .i64 (mx9 a b c d e f g h i)) w := by
  simp [Builtin.max_, Builtin.max2, mx9, mx2]
def fewI (m : Mo) : Bool := decide (m.ty.l.length ≤ 64) && decide (mx9 m.im.l.length m.fn.l.length m.ta.l.length m.me.l.length m.gl.l.length m.ex.l.length m.el.l.length m.da.l.length m.cu.l.length ≤ 64)
theorem mx9_in (a b c d e f g h i : Int) (ha : 0 ≤ a ∧ a ≤ 9223372036854775807) (hb : 0 ≤ b ∧ b ≤ 9223372036854775807) (hc : 0 ≤ c ∧ c ≤ 9223372036854775807) (hd : 0 ≤ d ∧ d ≤ 9223372036854775807) (he : 0 ≤ e ∧ e ≤ 9223372036854775807) (hf : 0 ≤ f ∧ f ≤ 9223372036854775807) (hg : 0 ≤ g ∧ g ≤ 9223372036854775807) (hh : 0 ≤ h ∧ h ≤ 9223372036854775807) (hi : 0 ≤ i ∧ i ≤ 9223372036854775807) : 0 ≤ mx9 a b c d e f g h i ∧ mx9 a b c d e f g h i ≤ 9223372036854775807 := by
  have key : ∀ x y : Int, (0 ≤ x ∧ x ≤ 9223372036854775807) → (0 ≤ y ∧ y ≤ 9223372036854775807) → (0 ≤ mx2 x y ∧ mx2 x y ≤ 9223372036854775807) := fun x y h1 h2 => by unfold mx2; split <;> omega
  exact key _ _ (key _ _ (key _ _ (key _ _ (key _ _ (key _ _ (key _ _ (key _ _ ha hb) hc) hd) he) hf) hg) hh) hi
set_option maxHeartbeats 8000000 in
set_option maxRecDepth 100000 in
theorem fewItems_any (m : Mo) (w : World) (hm : m.ok w w.heap.size) : Calls Tryz.prog 19 #[moV m] w fun e w' => e = .returned (.bool (fewI m)) ∧ Below w.heap.size w w' := by
  unfold fewI
  have m0 := Nat.le_trans hm.ty.le hm.ty.c
  have m1 := Nat.le_trans hm.im.le hm.im.c
  have m2 := Nat.le_trans hm.fn.le hm.fn.c
  have m3 := Nat.le_trans hm.ta.le hm.ta.c
  have m4 := Nat.le_trans hm.me.le hm.me.c
  have m5 := Nat.le_trans hm.gl.le hm.gl.c
  have m6 := Nat.le_trans hm.ex.le hm.ex.c
  have m7 := Nat.le_trans hm.el.le hm.el.c
  have m8 := Nat.le_trans hm.da.le hm.da.c
  have m9 := Nat.le_trans hm.cu.le hm.cu.c
  unfold maxLen at m0 m1 m2 m3 m4 m5 m6 m7 m8 m9
  clear hm
  have hmx := mx9_in m.im.l.length m.fn.l.length m.ta.l.length m.me.l.length m.gl.l.length m.ex.l.length m.el.l.length m.da.l.length m.cu.l.length ⟨by omega, by omega⟩ ⟨by omega, by omega⟩ ⟨by omega, by omega⟩ ⟨by omega, by omega⟩ ⟨by omega, by omega⟩ ⟨by omega, by omega⟩ ⟨by omega, by omega⟩ ⟨by omega, by omega⟩ ⟨by omega, by omega⟩
  by_cases h1 : m.ty.l.length ≤ 64
  · have t1 : decide ((m.ty.l.length : Int) ≤ 64) = true := leT h1
    rw [decide_eq_true h1]
    clear h1
    cases hq : decide (mx9 m.im.l.length m.fn.l.length m.ta.l.length m.me.l.length m.gl.l.length m.ex.l.length m.el.l.length m.da.l.length m.cu.l.length ≤ 64)
    · go_enter Tryz.func19, Tryz.ntmps19
      go_wp2_with fail
      go_ret
      exact ⟨by simp_all, ((Below.refl _ _).alloc (Nat.le_refl _) _)⟩
    · go_enter Tryz.func19, Tryz.ntmps19
      go_wp2_with fail
      go_ret
      exact ⟨by simp_all, ((Below.refl _ _).alloc (Nat.le_refl _) _)⟩
  · have t1 : decide ((m.ty.l.length : Int) ≤ 64) = false := leF h1
    rw [decide_eq_false h1]
    clear h1
    go_enter Tryz.func19, Tryz.ntmps19
    go_wp2_with fail
    go_ret
    exact ⟨by simp, ((Below.refl _ _).alloc (Nat.le_refl _) _)⟩

def smallM (m : Mo) : Bool := fewI m && m.ty.l.all smTy && m.im.l.all smIm && m.fn.l.all smFn && m.gl.l.all smGl && m.ex.l.all smEx && m.el.l.all smEl && m.da.l.all smDa && m.cu.l.all smCu
/-- a box behind a world, and what was there stays. -/
def Bx1 (w : World) (c : Array Value) (w1 : World) : Prop := w.heap.size < w1.heap.size ∧ (∀ i, w1.cell? ⟨w.heap.size, i, none⟩ = c[i]?) ∧ Below w.heap.size w w1
theorem Bx1.bel {w w1 : World} {c : Array Value} (h : Bx1 w c w1) : Below w.heap.size w w1 := h.2.2
theorem Bx1.next {w w1 w2 : World} {c : Array Value} (h : Bx1 w c w1) (hb : Below w1.heap.size w1 w2) : Bx1 w c w2 :=
  ⟨Nat.lt_of_lt_of_le h.1 hb.size, fun i => (hb.cell (p := ⟨w.heap.size, i, none⟩) h.1).trans (h.2.1 i), h.2.2.trans (hb.mono h.2.2.size)⟩
set_option maxHeartbeats 40000000 in
set_option maxRecDepth 100000 in
theorem Small_any (m : Mo) (w : World) (hN : Nam w) (hm : m.ok w w.heap.size) : Calls Tryz.prog 8 #[moV m] w fun e w' => e = .returned (.bool (smallM m)) ∧ Below w.heap.size w w' := by
  have HF := Lib.hid (fun w' (h : Below w.heap.size w w') => fewItems_any m w' (hm.below h))
  have H0 := Lib.hid (fun w' (h : Below w.heap.size w w') => allTy_any m.ty w' (hN.below h) (hm.below h).ty)
  have H1 := Lib.hid (fun w' (h : Below w.heap.size w w') => allIm_any m.im w' (hN.below h) (hm.below h).im)
  have H2 := Lib.hid (fun w' (h : Below w.heap.size w w') => allFn_any m.fn w' (hN.below h) (hm.below h).fn)
  have H3 := Lib.hid (fun w' (h : Below w.heap.size w w') => allGl_any m.gl w' (hN.below h) (hm.below h).gl)
  have H4 := Lib.hid (fun w' (h : Below w.heap.size w w') => allEx_any m.ex w' (hN.below h) (hm.below h).ex)
  have H5 := Lib.hid (fun w' (h : Below w.heap.size w w') => allEl_any m.el w' (hN.below h) (hm.below h).el)
  have H6 := Lib.hid (fun w' (h : Below w.heap.size w w') => allDa_any m.da w' (hN.below h) (hm.below h).da)
  have H7 := Lib.hid (fun w' (h : Below w.heap.size w w') => allCu_any m.cu w' (hN.below h) (hm.below h).cu)
  clear hm hN
  go_enter Tryz.func8, Tryz.ntmps8
  go_wp2_with (first
    | (go_at_call 19; ((with_reducible refine (HF.out _ ((Below.refl _ _).alloc (Nat.le_refl _) _)).mono ?_); rintro e w0 ⟨rfl, hb1⟩; have HK0 := Lib.hid (show Bx1 w #[.slice m.ty.A m.ty.l.length m.ty.c, .slice m.im.A m.im.l.length m.im.c, .slice m.fn.A m.fn.l.length m.fn.c, .slice m.ta.A m.ta.l.length m.ta.c, .slice m.me.A m.me.l.length m.me.c, .slice m.gl.A m.gl.l.length m.gl.c, .slice m.ex.A m.ex.l.length m.ex.c, .int .i64 m.st, .slice m.el.A m.el.l.length m.el.c, .slice m.da.A m.da.l.length m.da.c, .slice m.cu.A m.cu.l.length m.cu.c] w0 from (by obtain ⟨x1, x2, -, x3⟩ := newBlk hb1; exact ⟨x1, x2, x3⟩)); have c0 : w0.cell? ⟨w.heap.size, 0, none⟩ = some (.slice m.ty.A m.ty.l.length m.ty.c) := HK0.out.2.1 0; have hl0 := HK0.out.1; obtain ⟨b0, hB0⟩ : ∃ b, b = fewI m := ⟨_, rfl⟩; rw [← hB0]; have HP0 := Lib.hid hB0; clear hb1 hB0))
    | (go_at_call 20; ((with_reducible refine (H0.out _ HK0.out.bel).mono ?_); rintro e w1 ⟨rfl, hb1⟩; have HK1 := Lib.hid (HK0.out.next hb1); have c1 : w1.cell? ⟨w.heap.size, 1, none⟩ = some (.slice m.im.A m.im.l.length m.im.c) := HK1.out.2.1 1; have hl1 := HK1.out.1; obtain ⟨b1, hB1⟩ : ∃ b, b = m.ty.l.all smTy := ⟨_, rfl⟩; rw [← hB1]; have HP1 := Lib.hid hB1; clear hb1 hB1))
    | (go_at_call 22; ((with_reducible refine (H1.out _ HK1.out.bel).mono ?_); rintro e w2 ⟨rfl, hb1⟩; have HK2 := Lib.hid (HK1.out.next hb1); have c2 : w2.cell? ⟨w.heap.size, 2, none⟩ = some (.slice m.fn.A m.fn.l.length m.fn.c) := HK2.out.2.1 2; have hl2 := HK2.out.1; obtain ⟨b2, hB2⟩ : ∃ b, b = m.im.l.all smIm := ⟨_, rfl⟩; rw [← hB2]; have HP2 := Lib.hid hB2; clear hb1 hB2))
    | (go_at_call 24; ((with_reducible refine (H2.out _ HK2.out.bel).mono ?_); rintro e w3 ⟨rfl, hb1⟩; have HK3 := Lib.hid (HK2.out.next hb1); have c5 : w3.cell? ⟨w.heap.size, 5, none⟩ = some (.slice m.gl.A m.gl.l.length m.gl.c) := HK3.out.2.1 5; have hl3 := HK3.out.1; obtain ⟨b3, hB3⟩ : ∃ b, b = m.fn.l.all smFn := ⟨_, rfl⟩; rw [← hB3]; have HP3 := Lib.hid hB3; clear hb1 hB3))
    | (go_at_call 26; ((with_reducible refine (H3.out _ HK3.out.bel).mono ?_); rintro e w4 ⟨rfl, hb1⟩; have HK4 := Lib.hid (HK3.out.next hb1); have c6 : w4.cell? ⟨w.heap.size, 6, none⟩ = some (.slice m.ex.A m.ex.l.length m.ex.c) := HK4.out.2.1 6; have hl4 := HK4.out.1; obtain ⟨b4, hB4⟩ : ∃ b, b = m.gl.l.all smGl := ⟨_, rfl⟩; rw [← hB4]; have HP4 := Lib.hid hB4; clear hb1 hB4))
    | (go_at_call 28; ((with_reducible refine (H4.out _ HK4.out.bel).mono ?_); rintro e w5 ⟨rfl, hb1⟩; have HK5 := Lib.hid (HK4.out.next hb1); have c8 : w5.cell? ⟨w.heap.size, 8, none⟩ = some (.slice m.el.A m.el.l.length m.el.c) := HK5.out.2.1 8; have hl5 := HK5.out.1; obtain ⟨b5, hB5⟩ : ∃ b, b = m.ex.l.all smEx := ⟨_, rfl⟩; rw [← hB5]; have HP5 := Lib.hid hB5; clear hb1 hB5))
    | (go_at_call 30; ((with_reducible refine (H5.out _ HK5.out.bel).mono ?_); rintro e w6 ⟨rfl, hb1⟩; have HK6 := Lib.hid (HK5.out.next hb1); have c9 : w6.cell? ⟨w.heap.size, 9, none⟩ = some (.slice m.da.A m.da.l.length m.da.c) := HK6.out.2.1 9; have hl6 := HK6.out.1; obtain ⟨b6, hB6⟩ : ∃ b, b = m.el.l.all smEl := ⟨_, rfl⟩; rw [← hB6]; have HP6 := Lib.hid hB6; clear hb1 hB6))
    | (go_at_call 32; ((with_reducible refine (H6.out _ HK6.out.bel).mono ?_); rintro e w7 ⟨rfl, hb1⟩; have HK7 := Lib.hid (HK6.out.next hb1); have c10 : w7.cell? ⟨w.heap.size, 10, none⟩ = some (.slice m.cu.A m.cu.l.length m.cu.c) := HK7.out.2.1 10; have hl7 := HK7.out.1; obtain ⟨b7, hB7⟩ : ∃ b, b = m.da.l.all smDa := ⟨_, rfl⟩; rw [← hB7]; have HP7 := Lib.hid hB7; clear hb1 hB7))
    | (go_at_call 34; ((with_reducible refine (H7.out _ HK7.out.bel).mono ?_); rintro e w8 ⟨rfl, hb1⟩; have HK8 := Lib.hid (HK7.out.next hb1); have hl8 := HK8.out.1; obtain ⟨b8, hB8⟩ : ∃ b, b = m.cu.l.all smCu := ⟨_, rfl⟩; rw [← hB8]; have HP8 := Lib.hid hB8; clear hb1 hB8)))
  all_goals
    go_ret
    first
    | exact ⟨by unfold smallM; rw [← HP0.out]; rw [← HP1.out]; rw [← HP2.out]; rw [← HP3.out]; rw [← HP4.out]; rw [← HP5.out]; rw [← HP6.out]; rw [← HP7.out]; rw [← HP8.out]; simp_all, HK8.out.bel⟩
    | exact ⟨by unfold smallM; rw [← HP0.out]; rw [← HP1.out]; rw [← HP2.out]; rw [← HP3.out]; rw [← HP4.out]; rw [← HP5.out]; rw [← HP6.out]; rw [← HP7.out]; simp_all, HK7.out.bel⟩
    | exact ⟨by unfold smallM; rw [← HP0.out]; rw [← HP1.out]; rw [← HP2.out]; rw [← HP3.out]; rw [← HP4.out]; rw [← HP5.out]; rw [← HP6.out]; simp_all, HK6.out.bel⟩
    | exact ⟨by unfold smallM; rw [← HP0.out]; rw [← HP1.out]; rw [← HP2.out]; rw [← HP3.out]; rw [← HP4.out]; rw [← HP5.out]; simp_all, HK5.out.bel⟩
    | exact ⟨by unfold smallM; rw [← HP0.out]; rw [← HP1.out]; rw [← HP2.out]; rw [← HP3.out]; rw [← HP4.out]; simp_all, HK4.out.bel⟩
    | exact ⟨by unfold smallM; rw [← HP0.out]; rw [← HP1.out]; rw [← HP2.out]; rw [← HP3.out]; simp_all, HK3.out.bel⟩
    | exact ⟨by unfold smallM; rw [← HP0.out]; rw [← HP1.out]; rw [← HP2.out]; simp_all, HK2.out.bel⟩
    | exact ⟨by unfold smallM; rw [← HP0.out]; rw [← HP1.out]; simp_all, HK1.out.bel⟩
    | exact ⟨by unfold smallM; rw [← HP0.out]; simp_all, HK0.out.bel⟩
end Go.Proofs.YtmdgemdollfnhaaGreatDoor
