/- Contracts of the reference's FuncType and Ints. -/
import Derived.Test.YtmdgemdollfnhaaDoorTreeL2
namespace Go.Proofs.YtmdgemdollfnhaaDoor
open Go.RowKit Trx

def rft (m : Mo) (f : Int) : Int := match ftV m f with
  | some k => (k : Int)
  | none => -1
theorem rft_none {m : Mo} {f : Int} (h : tnV m f = none) : rft m f = -1 := by simp [rft, ftV, h]
theorem rft_some {m : Mo} {f t : Int} (h : tnV m f = some t) : rft m f = if 0 ≤ t ∧ t < (m.ty.l.length : Int) then t else -1 := by
  unfold rft ftV
  rw [h]
  simp only
  by_cases hc : 0 ≤ t ∧ t < (m.ty.l.length : Int)
  · rw [if_pos hc, if_pos hc]; simp only; omega
  · rw [if_neg hc, if_neg hc]

set_option maxHeartbeats 8000000 in
set_option maxRecDepth 100000 in
theorem refFuncType_out (m : Mo) (f : Int) (w : World) (hm : m.ok w w.heap.size) (h : f < 0 ∨ (spN m 0 : Int) ≤ f) :
    Calls Tryd.prog 16 #[moA m, .int .i64 f] w fun e w' => e = .returned (.int .i64 (-1)) ∧ Below w.heap.size w w' := by
  have HS := Lib.hid (fun w' (h : Below w.heap.size w w') => refSpace_any m 0 w' (hm.below h))
  unfold moA at *
  clear hm
  by_cases hneg : f < 0
  · have t0 : decide (f < 0) = true := by simpa using hneg
    go_enter Tryd.func16, Tryd.ntmps16
    go_wp2_with (go_at_call 14; refine (HS.out _ ((Below.refl _ _).alloc (Nat.le_refl _) _)).mono ?_; rintro e w1 ⟨v, rfl, ho⟩; obtain ⟨A, c, hv, hc1, hc2, -⟩ := ho.form; rw [ones_n64_len, spL_len] at hv hc1; subst hv; have HB := Lib.hid (bel_alloc ho.below); clear ho)
    go_ret
    exact ⟨rfl, HB.out⟩
  · have t0 : decide (f < 0) = false := by simpa using hneg
    have t1 : decide ((spN m 0 : Int) ≤ f) = true := by simp; omega
    go_enter Tryd.func16, Tryd.ntmps16
    go_wp2_with (go_at_call 14; refine (HS.out _ ((Below.refl _ _).alloc (Nat.le_refl _) _)).mono ?_; rintro e w1 ⟨v, rfl, ho⟩; obtain ⟨A, c, hv, hc1, hc2, -⟩ := ho.form; rw [ones_n64_len, spL_len] at hv hc1; subst hv; have HB := Lib.hid (bel_alloc ho.below); clear ho)
    go_ret
    exact ⟨rfl, HB.out⟩

theorem spN0 (m : Mo) : spN m 0 = (imp m 0).length + m.fn.l.length := by simp [spN, isKd, ownN]
theorem spN3 (m : Mo) : spN m 3 = (imp m 3).length + m.gl.l.length := by simp [spN, isKd, ownN]

set_option maxHeartbeats 8000000 in
set_option maxRecDepth 100000 in
theorem refFuncType_far (m : Mo) (j : Nat) (x : Im) (w : World) (hm : m.ok w w.heap.size) (hx : (imp m 0)[j]? = some x) :
    Calls Tryd.prog 16 #[moA m, .int .i64 j] w fun e w' => e = .returned (.int .i64 (if 0 ≤ x.ty ∧ x.ty < (m.ty.l.length : Int) then x.ty else -1)) ∧ Below w.heap.size w w' := by
  have hj : j < (imp m 0).length := by
    rcases Nat.lt_or_ge j (imp m 0).length with h | h
    · exact h
    · rw [List.getElem?_eq_none h] at hx; cases hx
  have HS := Lib.hid (fun w' (h : Below w.heap.size w w') => refSpace_any m 0 w' (hm.below h))
  obtain ⟨i, hsp, him⟩ := spL_far (m := m) (q := 0) (by omega) hx
  have hil : i < m.im.l.length := by
    rcases Nat.lt_or_ge i m.im.l.length with h | h
    · exact h
    · rw [List.getElem?_eq_none h] at him; cases him
  obtain ⟨b, o, x', hA, hx', hb, -, hcell⟩ := hm.im.at_ hil
  obtain rfl : x' = x := Option.some.inj (hx'.symm.trans him)
  have HQ := Lib.hid (show w.cell? ⟨b, o + i * 8 + 3, none⟩ = some (.int .i64 x'.ty) from hcell 3 (by omega))
  have hlsp := spN0 m
  have hci := hm.im.c
  have hli := hm.im.le
  have hrb := hm.im.rb
  have hrbf := hm.fn.rb
  have hle := imp_le m 0
  unfold RB at hrb hrbf
  unfold maxLen at hci
  have HSP := Lib.hid hsp
  have HL := Lib.hid hlsp
  have hjs : (j : Int) < (spN m 0 : Int) := by omega
  have hjs' : j < spN m 0 := by omega
  unfold moA at *
  rw [hA] at HS ⊢
  clear hm hx him hx' hcell hsp hlsp hA
  have t1 : decide ((spN m 0 : Int) ≤ (j : Int)) = false := by simp; omega
  have t3 : decide (0 ≤ (i : Int)) = true := by simp
  have go : ∀ r : Int, (if 0 ≤ x'.ty ∧ x'.ty < (m.ty.l.length : Int) then x'.ty else -1) = r → Calls Tryd.prog 16 #[.agg #[.slice m.ty.A m.ty.l.length m.ty.c, .slice (some ⟨b, o, none⟩) m.im.l.length m.im.c, .slice m.fn.A m.fn.l.length m.fn.c, .slice m.ta.A m.ta.l.length m.ta.c, .slice m.me.A m.me.l.length m.me.c, .slice m.gl.A m.gl.l.length m.gl.c,
      .slice m.ex.A m.ex.l.length m.ex.c, .int .i64 m.st, .slice m.el.A m.el.l.length m.el.c, .slice m.da.A m.da.l.length m.da.c, .slice m.cu.A m.cu.l.length m.cu.c], .int .i64 j] w fun e w' => e = .returned (.int .i64 r) ∧ Below w.heap.size w w' := by
    intro r hr
    have HRr := Lib.hid hr
    clear hr
    go_enter Tryd.func16, Tryd.ntmps16
    go_wp2_with (go_at_call 14; refine (HS.out _ ((Below.refl _ _).alloc (Nat.le_refl _) _)).mono ?_; rintro e w1 ⟨v, rfl, ho⟩; obtain ⟨-, c, bs, os, hv, -, hc1, hc2, hbs, hcs⟩ := ho.num HSP.out; rw [spL_len] at hv hc1; subst hv; obtain ⟨hlt, k0, k1, -⟩ := elevenB ho.below; have HB := Lib.hid (bel_alloc ho.below); have q3 := (HB.out.cell (p := ⟨b, _, none⟩) hb).trans HQ.out; have hb' := Nat.lt_trans hb hlt; clear ho)
    go_quiet (fail)
    go_wp2_with fail
    all_goals
      go_ret
      have h := HB.out
      refine ⟨?_, ⟨h.os, h.tape, h.output, h.size, h.block⟩⟩
      rw [← HRr.out]
      first
      | (rw [if_neg (by omega)]; rfl)
      | (rw [if_pos (by omega)]; rfl)
  exact go _ rfl

set_option maxHeartbeats 8000000 in
set_option maxRecDepth 100000 in
theorem refFuncType_own (m : Mo) (j : Nat) (x : Fn) (w : World) (hm : m.ok w w.heap.size) (hx : m.fn.l[j]? = some x) :
    Calls Tryd.prog 16 #[moA m, .int .i64 (((imp m 0).length + j : Nat) : Int)] w fun e w' => e = .returned (.int .i64 (if 0 ≤ x.ty ∧ x.ty < (m.ty.l.length : Int) then x.ty else -1)) ∧ Below w.heap.size w w' := by
  have hj : j < m.fn.l.length := by
    rcases Nat.lt_or_ge j m.fn.l.length with h | h
    · exact h
    · rw [List.getElem?_eq_none h] at hx; cases hx
  have HS := Lib.hid (fun w' (h : Below w.heap.size w w') => refSpace_any m 0 w' (hm.below h))
  have hsp := spL_own (m := m) (q := 0) (by omega) (j := j) (by simp [ownN]; exact hj)
  obtain ⟨b, o, x', hA, hx', hb, -, hcell⟩ := hm.fn.at_ hj
  obtain rfl : x' = x := Option.some.inj (hx'.symm.trans hx)
  have HQ := Lib.hid (show w.cell? ⟨b, o + j * 3, none⟩ = some (.int .i64 x'.ty) from hcell 0 (by omega))
  have hlsp := spN0 m
  have hcf := hm.fn.c
  have hlf := hm.fn.le
  have hrb := hm.im.rb
  have hrbf := hm.fn.rb
  have hle := imp_le m 0
  unfold RB at hrb hrbf
  unfold maxLen at hcf
  obtain ⟨f, hf⟩ : ∃ f : Nat, f = (imp m 0).length + j := ⟨_, rfl⟩
  have hsp' : (spL m ((0 : Nat) : Int))[(imp m ((0 : Nat) : Int)).length + j]? = some (-1 - (j : Int)) := hsp
  rw [show (imp m ((0 : Nat) : Int)).length + j = f by rw [hf]; rfl] at hsp'
  rw [← hf]
  have HSP := Lib.hid hsp'
  have hjs : (f : Int) < (spN m 0 : Int) := by omega
  have hjs' : f < spN m 0 := by omega
  unfold moA at *
  rw [hA] at HS ⊢
  clear hm hx hx' hcell hsp hsp' hlsp hA hf
  have t1 : decide ((spN m 0 : Int) ≤ (f : Int)) = false := by simp; omega
  have t3 : decide (0 ≤ -1 - (j : Int)) = false := by simp; omega
  have t4 : ¬ 0 ≤ -1 - (j : Int) := by omega
  have hwr : IntKind.i64.wrap (-1 - (-1 - (j : Int))) = (j : Int) := by rw [IntWalk.i64_in _ (by omega)]; omega
  have go : ∀ r : Int, (if 0 ≤ x'.ty ∧ x'.ty < (m.ty.l.length : Int) then x'.ty else -1) = r → Calls Tryd.prog 16 #[.agg #[.slice m.ty.A m.ty.l.length m.ty.c, .slice m.im.A m.im.l.length m.im.c, .slice (some ⟨b, o, none⟩) m.fn.l.length m.fn.c, .slice m.ta.A m.ta.l.length m.ta.c, .slice m.me.A m.me.l.length m.me.c, .slice m.gl.A m.gl.l.length m.gl.c,
      .slice m.ex.A m.ex.l.length m.ex.c, .int .i64 m.st, .slice m.el.A m.el.l.length m.el.c, .slice m.da.A m.da.l.length m.da.c, .slice m.cu.A m.cu.l.length m.cu.c], .int .i64 f] w fun e w' => e = .returned (.int .i64 r) ∧ Below w.heap.size w w' := by
    intro r hr
    have HRr := Lib.hid hr
    clear hr
    go_enter Tryd.func16, Tryd.ntmps16
    go_wp2_with (go_at_call 14; refine (HS.out _ ((Below.refl _ _).alloc (Nat.le_refl _) _)).mono ?_; rintro e w1 ⟨v, rfl, ho⟩; obtain ⟨-, c, bs, os, hv, -, hc1, hc2, hbs, hcs⟩ := ho.num HSP.out; rw [spL_len] at hv hc1; subst hv; obtain ⟨hlt, k0, -, k2, -⟩ := elevenB ho.below; have HB := Lib.hid (bel_alloc ho.below); have q3 := (HB.out.cell (p := ⟨b, _, none⟩) hb).trans HQ.out; have hb' := Nat.lt_trans hb hlt; clear ho)
    go_quiet (fail)
    go_wp2_with fail
    all_goals
      go_ret
      have h := HB.out
      refine ⟨?_, ⟨h.os, h.tape, h.output, h.size, h.block⟩⟩
      rw [← HRr.out]
      first
      | (rw [if_neg (by omega)]; rfl)
      | (rw [if_pos (by omega)]; rfl)
  exact go _ rfl

set_option maxHeartbeats 8000000 in
set_option maxRecDepth 100000 in
/-- two lists of numbers that are the same. -/
theorem Ints_same (zs : List Int) (A1 A2 : Option Addr) (c1 c2 : Nat) (w : World) (h1 : Sl w w.heap.size A1 (n64s zs)) (h2 : Sl w w.heap.size A2 (n64s zs)) (hm : zs.length ≤ maxLen) :
    Calls Tryd.prog 17 #[.slice A1 zs.length c1, .slice A2 zs.length c2] w fun e w' => e = .returned (.bool true) ∧ ∃ n, w' = w.drewN n := by
  unfold maxLen at hm
  have H1 := Lib.hid h1
  have H2 := Lib.hid h2
  clear h1 h2
  go_enter Tryd.func17, Tryd.ntmps17
  go_wp2_with fail
  go_loopw [5] (fun i wr => ∃ (j n : Nat), j ≤ zs.length ∧ i = .int .i64 j ∧ wr = w.drewN n) (fun i _ => zs.length - (intOf i).toNat)
  case atStart => exact ⟨0, 0, by omega, rfl, rfl⟩
  case round =>
    obtain ⟨j, n, hj, rfl, rfl⟩ := hrel
    by_cases hlt : j < zs.length
    · have hne : n64s zs ≠ [] := by intro e; have := congrArg List.length e; rw [n64s_length, List.length_nil] at this; omega
      obtain ⟨b1, o1, rfl, hb1, hc1⟩ := H1.out hne
      obtain ⟨b2, o2, rfl, hb2, hc2⟩ := H2.out hne
      have hg : (n64s zs)[j]? = some (.int .i64 zs[j]) := by simp [n64s, hlt]
      have q1 : (w.drewN n).cell? ⟨b1, o1 + j, none⟩ = some (.int .i64 zs[j]) := (hc1 j (by simpa using hlt)).trans hg
      have q2 : (w.drewN n).cell? ⟨b2, o2 + j, none⟩ = some (.int .i64 zs[j]) := (hc2 j (by simpa using hlt)).trans hg
      obtain ⟨z, hz⟩ : ∃ z, z = zs[j] := ⟨_, rfl⟩
      rw [← hz] at q1 q2
      have tz : (z != z) = false := by simp
      obtain ⟨w0, hw0⟩ : ∃ w0, w0 = w.drewN n := ⟨_, rfl⟩
      have hb1' : b1 < w0.heap.size := by rw [hw0]; exact hb1
      have hb2' : b2 < w0.heap.size := by rw [hw0]; exact hb2
      rw [← hw0] at q1 q2 ⊢
      have HW := Lib.hid hw0
      clear hz hc1 hc2 hg hne hw0
      go_wp2_with fail
      go_quiet (fail)
      go_wp2_with fail
      go_roundw
      case rel => exact ⟨j + 1, n + nq, by omega, by go_num, by rw [HW.out, World.drewN_drewN]⟩
      case measure => simp [intOf]; omega
    · go_wp2_with fail
      go_ret
      exact ⟨rfl, n, rfl⟩
end Go.Proofs.YtmdgemdollfnhaaDoor
