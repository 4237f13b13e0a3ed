/- Contracts of tree.Global, and of the reference's FuncType and Ints. -/
import Derived.Test.YtmdgemdollfnhaaDoorTreeL
import Derived.Test.YtmdgemdollfnhaaDoorTreeK2
namespace Go.Proofs.YtmdgemdollfnhaaDoor
open Go.RowKit Trx

set_option maxRecDepth 100000 in
theorem isPlaceGl_any (A : Option Addr) (l c : Nat) (i : Int) (w : World) : Calls Tryd.prog 34 #[.slice A l c, .int .i64 i] w fun e w' => e = .returned (.bool (isPl i l)) ∧ w = w' := by
  unfold isPl
  cases t0 : decide (0 ≤ i)
  all_goals
    go_enter Tryd.func34, Tryd.ntmps34
    go_wp2_with fail
    go_ret
    exact ⟨by simp, rfl⟩

set_option maxHeartbeats 8000000 in
set_option maxRecDepth 100000 in
theorem Global_far (m : Mo) (j : Nat) (x : Im) (w : World) (hm : m.ok w w.heap.size) (hx : (imp m 3)[j]? = some x) :
    Calls Tryd.prog 18 #[moA m, .int .i64 j] w fun e w' => e = .returned (.tuple #[.int .i64 x.ty, .bool x.mu, .bool true, .nilIface]) ∧ Below w.heap.size w w' := by
  have hj : j < (imp m 3).length := by
    rcases Nat.lt_or_ge j (imp m 3).length with h | h
    · exact h
    · rw [List.getElem?_eq_none h] at hx; cases hx
  have hle := imp_le m 3
  have hrb := hm.im.rb
  unfold RB at hrb
  have HI := Lib.hid (fun w' (h : Below w.heap.size w w') => imported_any m 3 w' (hm.below h))
  have HP := Lib.hid isPlaceIm_any
  have tp : isPl (j : Int) (imp m 3).length = true := by simp [isPl]; omega
  have HX := Lib.hid (show ((imp m 3).map Im.cells)[j]? = some x.cells by rw [List.getElem?_map, hx]; rfl)
  unfold moA at *
  clear hm hx
  go_enter Tryd.func18, Tryd.ntmps18
  go_wp2_with (first
    | (go_at_call 29; refine (HI.out _ ((Below.refl _ _).alloc (Nat.le_refl _) _)).mono ?_; rintro e w1 ⟨v, rfl, ho⟩; obtain ⟨A, c, hv, hc1, hc2, hrows⟩ := ho.form; rw [List.length_map] at hv hc1; subst hv; obtain ⟨b, o, rfl, hb, hcell⟩ := hrows.at_ HX.out; obtain ⟨-, -, -, q3, q4, -, -, -⟩ := Im.eight hcell; have HB := Lib.hid (bel_alloc ho.below); clear ho hrows hcell)
    | (go_at_call 33; refine (HP.out _ _ _ _ _).mono ?_; rw [tp]; rintro e w2 ⟨rfl, rfl⟩))
  go_quiet (fail)
  go_wp2_with fail
  refine bodyPost_ret (v := .tuple #[.int .i64 x.ty, .bool x.mu, .bool true, .nilIface]) (by simp [results, Tryd.results18, go_sem]) rfl ⟨rfl, ?_⟩
  have h := HB.out
  exact ⟨h.os, h.tape, h.output, h.size, h.block⟩

set_option maxHeartbeats 8000000 in
set_option maxRecDepth 100000 in
theorem Global_own (m : Mo) (j : Nat) (x : Gl) (w : World) (hm : m.ok w w.heap.size) (hx : m.gl.l[j]? = some x) :
    Calls Tryd.prog 18 #[moA m, .int .i64 (((imp m 3).length : Int) + j)] w fun e w' => e = .returned (.tuple #[.int .i64 x.ty, .bool x.mu, .bool false, .nilIface]) ∧ Below w.heap.size w w' := by
  have hj : j < m.gl.l.length := by
    rcases Nat.lt_or_ge j m.gl.l.length with h | h
    · exact h
    · rw [List.getElem?_eq_none h] at hx; cases hx
  have hle := imp_le m 3
  have hrb := hm.im.rb
  have hrbg := hm.gl.rb
  have hcg := hm.gl.c
  have hlg := hm.gl.le
  unfold RB at hrb hrbg
  unfold maxLen at hcg
  have HI := Lib.hid (fun w' (h : Below w.heap.size w w') => imported_any m 3 w' (hm.below h))
  have HP := Lib.hid isPlaceIm_any
  have HQ := Lib.hid isPlaceGl_any
  have tp : isPl (((imp m 3).length : Int) + j) (imp m 3).length = false := by simp [isPl]; omega
  have tq : isPl (j : Int) m.gl.l.length = true := by simp [isPl]; omega
  have hjj : ((imp m 3).length : Int) + (j : Int) - ((imp m 3).length : Int) = (j : Int) := by omega
  obtain ⟨b, o, x', hA, hx', hb, -, hcell⟩ := hm.gl.at_ hj
  obtain rfl : x' = x := Option.some.inj (hx'.symm.trans hx)
  have q0 : w.cell? ⟨b, o + j * 11, none⟩ = some (.int .i64 x'.ty) := hcell 0 (by omega)
  have q1 : w.cell? ⟨b, o + j * 11 + 1, none⟩ = some (.bool x'.mu) := hcell 1 (by omega)
  have HQ0 := Lib.hid q0
  have HQ1 := Lib.hid q1
  unfold moA at *
  rw [hA] at HI ⊢
  clear hm hx hx' hcell q0 q1 hA
  go_enter Tryd.func18, Tryd.ntmps18
  go_wp2_with (first
    | (go_at_call 29; refine (HI.out _ ((Below.refl _ _).alloc (Nat.le_refl _) _)).mono ?_; rintro e w1 ⟨v, rfl, ho⟩; obtain ⟨A, c, hv, hc1, hc2, -⟩ := ho.form; rw [List.length_map] at hv hc1; subst hv; obtain ⟨hlt, -, -, -, -, -, k5, -⟩ := elevenB ho.below; have HB := Lib.hid (bel_alloc ho.below); have p0 := (HB.out.cell (p := ⟨b, _, none⟩) hb).trans HQ0.out; have p1 := (HB.out.cell (p := ⟨b, _, none⟩) hb).trans HQ1.out; have hb' := Nat.lt_trans hb hlt; clear ho)
    | (go_at_call 33; refine (HP.out _ _ _ _ _).mono ?_; rw [tp]; rintro e w2 ⟨rfl, rfl⟩)
    | (go_at_call 34; refine (HQ.out _ _ _ _ _).mono ?_; rw [tq]; rintro e w2 ⟨rfl, rfl⟩))
  go_quiet (fail)
  go_wp2_with fail
  refine bodyPost_ret (v := .tuple #[.int .i64 x'.ty, .bool x'.mu, .bool false, .nilIface]) (by simp [results, Tryd.results18, go_sem]) rfl ⟨rfl, ?_⟩
  have h := HB.out
  exact ⟨h.os, h.tape, h.output, h.size, h.block⟩

set_option maxHeartbeats 8000000 in
set_option maxRecDepth 100000 in
theorem Global_none (m : Mo) (g : Int) (w : World) (hm : m.ok w w.heap.size) (hg : inI g) (h : g < 0 ∨ ((imp m 3).length : Int) + (m.gl.l.length : Int) ≤ g) :
    Calls Tryd.prog 18 #[moA m, .int .i64 g] w fun e w' => e = .returned (.tuple #[.int .i64 0, .bool false, .bool false, .iface 48 (.int .i64 5)]) ∧ Below w.heap.size w w' := by
  have hle := imp_le m 3
  have hrb := hm.im.rb
  have hrbg := hm.gl.rb
  unfold RB at hrb hrbg
  unfold inI at hg
  have HI := Lib.hid (fun w' (h : Below w.heap.size w w') => imported_any m 3 w' (hm.below h))
  have HP := Lib.hid isPlaceIm_any
  have HQ := Lib.hid isPlaceGl_any
  have tp : isPl g (imp m 3).length = false := by simp [isPl]; omega
  unfold moA at *
  clear hm
  by_cases hneg : g < 0
  · have tq : isPl (wrap64 (g - ((imp m 3).length : Int))) m.gl.l.length = false := by simp [isPl]; unfold wrap64; omega
    go_enter Tryd.func18, Tryd.ntmps18
    go_wp2_with (first
      | (go_at_call 29; refine (HI.out _ ((Below.refl _ _).alloc (Nat.le_refl _) _)).mono ?_; rintro e w1 ⟨v, rfl, ho⟩; obtain ⟨A, c, hv, hc1, hc2, -⟩ := ho.form; rw [List.length_map] at hv hc1; subst hv; obtain ⟨hlt, -, -, -, -, -, k5, -⟩ := elevenB ho.below; have HB := Lib.hid (bel_alloc ho.below); clear ho)
      | (go_at_call 33; refine (HP.out _ _ _ _ _).mono ?_; rw [tp]; rintro e w2 ⟨rfl, rfl⟩)
      | (go_at_call 34; refine (HQ.out _ _ _ _ _).mono ?_; rw [tq]; rintro e w2 ⟨rfl, rfl⟩))
    exact bodyPost_ret (v := .tuple #[.int .i64 0, .bool false, .bool false, .iface 48 (.int .i64 5)]) (by simp [results, Tryd.results18, go_sem]) rfl ⟨rfl, HB.out⟩
  · have tq : isPl (g - ((imp m 3).length : Int)) m.gl.l.length = false := by simp [isPl]; omega
    go_enter Tryd.func18, Tryd.ntmps18
    go_wp2_with (first
      | (go_at_call 29; refine (HI.out _ ((Below.refl _ _).alloc (Nat.le_refl _) _)).mono ?_; rintro e w1 ⟨v, rfl, ho⟩; obtain ⟨A, c, hv, hc1, hc2, -⟩ := ho.form; rw [List.length_map] at hv hc1; subst hv; obtain ⟨hlt, -, -, -, -, -, k5, -⟩ := elevenB ho.below; have HB := Lib.hid (bel_alloc ho.below); clear ho)
      | (go_at_call 33; refine (HP.out _ _ _ _ _).mono ?_; rw [tp]; rintro e w2 ⟨rfl, rfl⟩)
      | (go_at_call 34; refine (HQ.out _ _ _ _ _).mono ?_; rw [tq]; rintro e w2 ⟨rfl, rfl⟩))
    exact bodyPost_ret (v := .tuple #[.int .i64 0, .bool false, .bool false, .iface 48 (.int .i64 5)]) (by simp [results, Tryd.results18, go_sem]) rfl ⟨rfl, HB.out⟩

/-- the reference's space, place by place. -/
theorem spL_far {m : Mo} {q : Nat} (hq : q < 4) {j : Nat} {x : Im} (hx : (imp m q)[j]? = some x) : ∃ i : Nat, (spL m q)[j]? = some (i : Int) ∧ m.im.l[i]? = some x := by
  have hkd : isKd (q : Int) = true := by simp [isKd]; omega
  have hj : j < (imp m q).length := by
    rcases Nat.lt_or_ge j (imp m q).length with h | h
    · exact h
    · rw [List.getElem?_eq_none h] at hx; cases hx
  have hl : j < (idxF q 0 m.im.l).length := by rw [idxF_len]; exact hj
  have hg := List.getElem?_eq_getElem hl
  obtain ⟨-, h2, h3⟩ := idxF_get q m.im.l 0 j _ hg
  refine ⟨(idxF (q : Int) 0 m.im.l)[j], ?_, ?_⟩
  · unfold spL
    rw [if_pos hkd, List.getElem?_append_left (by rw [List.length_map]; exact hl), List.getElem?_map, hg]
    rfl
  · have h4 : m.im.l[(idxF (q : Int) 0 m.im.l)[j]]? = (imp m q)[j]? := by unfold imp; simpa using h3
    rw [h4, hx]
theorem spL_own {m : Mo} {q : Nat} (hq : q < 4) {j : Nat} (hj : j < ownN m q) : (spL m q)[(imp m q).length + j]? = some (-1 - (j : Int)) := by
  have hkd : isKd (q : Int) = true := by simp [isKd]; omega
  unfold spL
  have hl : ((idxF (q : Int) 0 m.im.l).map fun (i : Nat) => (i : Int)).length = (imp m q).length := by rw [List.length_map, idxF_len]; rfl
  rw [if_pos hkd, List.getElem?_append_right (by rw [hl]; omega), hl, show (imp m q).length + j - (imp m q).length = j by omega]
  simp [ownL, hj]
/-- a cell of a row of numbers of the call's own. -/
theorem OwnK.num {B : Nat} {w0 w : World} {e : TypeId} {v : Value} {zs : List Int} (h : OwnK B w0 w e 1 v (ones (n64s zs))) {j : Nat} {z : Int} (hz : zs[j]? = some z) : ∃ A c b o, v = .slice (some ⟨b, o, none⟩) zs.length c ∧ A = some b ∧ zs.length ≤ c ∧ c ≤ maxLen ∧ b < w.heap.size ∧ w.cell? ⟨b, o + j, none⟩ = some (.int .i64 z) := by
  obtain ⟨A, c, hv, h1, h2, hrow⟩ := h.form
  rw [ones_n64_len] at hv h1
  obtain ⟨b, o, rfl, hb, hc⟩ := hrow.at_ (i := j) (r := [.int .i64 z]) (by simp [ones, n64s, hz])
  have := hc 0 (by omega)
  rw [Nat.mul_one, Nat.add_zero] at this
  exact ⟨some b, c, b, o, hv, rfl, h1, h2, hb, this⟩
end Go.Proofs.YtmdgemdollfnhaaDoor
