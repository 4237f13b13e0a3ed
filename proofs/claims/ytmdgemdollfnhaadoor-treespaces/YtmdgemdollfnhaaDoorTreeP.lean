/- The walk of TreeSpaces. -/
import Derived.Test.YtmdgemdollfnhaaDoorTreeL3
import Derived.Test.YtmdgemdollfnhaaDoorTreeI
import Derived.Test.YtmdgemdollfnhaaDoorErrs
namespace Go.Proofs.YtmdgemdollfnhaaDoor
open Go.RowKit Trx

/-- the cells of a module's box. -/
def BxC (m : Mo) (n : Nat) (w' : World) : Prop :=
  w'.cell? ⟨n, 0, none⟩ = some (.slice m.ty.A m.ty.l.length m.ty.c) ∧ w'.cell? ⟨n, 1, none⟩ = some (.slice m.im.A m.im.l.length m.im.c) ∧ w'.cell? ⟨n, 2, none⟩ = some (.slice m.fn.A m.fn.l.length m.fn.c) ∧ w'.cell? ⟨n, 3, none⟩ = some (.slice m.ta.A m.ta.l.length m.ta.c) ∧
  w'.cell? ⟨n, 4, none⟩ = some (.slice m.me.A m.me.l.length m.me.c) ∧ w'.cell? ⟨n, 5, none⟩ = some (.slice m.gl.A m.gl.l.length m.gl.c) ∧ w'.cell? ⟨n, 6, none⟩ = some (.slice m.ex.A m.ex.l.length m.ex.c) ∧ w'.cell? ⟨n, 7, none⟩ = some (.int .i64 m.st) ∧
  w'.cell? ⟨n, 8, none⟩ = some (.slice m.el.A m.el.l.length m.el.c) ∧ w'.cell? ⟨n, 9, none⟩ = some (.slice m.da.A m.da.l.length m.da.c) ∧ w'.cell? ⟨n, 10, none⟩ = some (.slice m.cu.A m.cu.l.length m.cu.c)
theorem BelM.bxc {m : Mo} {w wx : World} (h : BelM m w wx) : w.heap.size < wx.heap.size ∧ BxC m w.heap.size wx := by
  obtain ⟨h0, h1⟩ := elevenB h
  exact ⟨h0, h1⟩
theorem BelM.drew {m : Mo} {w wx : World} (h : BelM m w wx) : BelM m w wx.drew := Below.drew h
theorem BelM.drewN {m : Mo} {w wx : World} (h : BelM m w wx) (n : Nat) : BelM m w (wx.drewN n) := ⟨h.os, h.tape, h.output, h.size, h.block⟩
theorem BelM.mok {m : Mo} {w wx : World} (h : BelM m w wx) (hm : m.ok w w.heap.size) : m.ok wx wx.heap.size := hm.below h.out

theorem quiet_more {P : Program} {f : FuncId} {args : Array Value} {w : World} {n : Nat} {v : Value}
    (h : Calls P f args (w.drewN n) fun e w' => e = .returned v ∧ ∃ nq, w' = (w.drewN n).drewN nq) : Calls P f args (w.drewN n) fun e w'' => e = .returned v ∧ ∃ m, w'' = w.drewN m :=
  h.mono fun _ _ ⟨he, m, hm⟩ => ⟨he, n + m, by rw [hm, World.drewN_drewN]⟩
theorem ap {w : World} {o : Obj} {b i : Nat} (h : b < w.heap.size) : (w.alloc o).cell? ⟨b, i, none⟩ = w.cell? ⟨b, i, none⟩ := ((Below.refl _ w).alloc (Nat.le_refl _) o).cell (p := ⟨b, i, none⟩) h
theorem BelM.alloc_ {m : Mo} {w wx : World} (h : BelM m w wx) (o : Obj) : BelM m w (wx.alloc o) := h.next ((Below.refl _ _).alloc (Nat.le_refl _) o)
theorem refFT (m : Mo) (i : Int) (w : World) (hm : m.ok w w.heap.size) : Calls Tryd.prog 16 #[moA m, .int .i64 i] w fun e w' => e = .returned (.int .i64 (rft m i)) ∧ Below w.heap.size w w' := by
  have h0 := spN0 m
  by_cases h1 : 0 ≤ i ∧ i < ((imp m 0).length : Int)
  · obtain ⟨j, rfl⟩ := Int.eq_ofNat_of_zero_le h1.1
    have hx : (imp m 0)[j]? = some (imp m 0)[j] := List.getElem?_eq_getElem (by omega)
    have ht : tnV m j = some (imp m 0)[j].ty := by unfold tnV; rw [if_pos h1, Int.toNat_natCast, hx]; rfl
    rw [rft_some ht]
    exact refFuncType_far m j _ w hm hx
  by_cases h2 : ((imp m 0).length : Int) ≤ i ∧ i < ((imp m 0).length : Int) + (m.fn.l.length : Int)
  · obtain ⟨j, hj⟩ : ∃ j : Nat, i = (((imp m 0).length + j : Nat) : Int) := ⟨(i - (imp m 0).length).toNat, by omega⟩
    subst hj
    have hx : m.fn.l[j]? = some m.fn.l[j] := List.getElem?_eq_getElem (by omega)
    have ht : tnV m (((imp m 0).length + j : Nat) : Int) = some m.fn.l[j].ty := by unfold tnV; rw [if_neg h1, if_pos h2, show ((((imp m 0).length + j : Nat) : Int)).toNat - (imp m 0).length = j by omega, hx]; rfl
    rw [rft_some ht]
    exact refFuncType_own m j _ w hm hx
  · rw [rft_none (show tnV m i = none by unfold tnV; rw [if_neg h1, if_neg h2])]
    exact refFuncType_out m i w hm (by omega)

set_option maxHeartbeats 16000000 in
set_option maxRecDepth 100000 in
theorem walk_TreeSpaces (m : Mo) (kind i : Int) (w : World) (hm : m.ok w w.heap.size) (hkw : (Lit.int .i64 kind).wf = true) (hiw : (Lit.int .i64 i).wf = true) (hN : Nam w) :
    Calls Tryd.prog 4 #[moA m, .int .i64 kind, .int .i64 i] w fun e w' => e = .returned (.bool true) ∧ Below w.heap.size w w' := by
  have hi := inI_of hiw
  have HU := Lib.hid (fun w' (h : BelM m w w') => up_any w' (hN.below h.out))
  have HF := Lib.hid (fun w' (h : BelM m w w') => Few_any m w' (h.mok hm))
  have HS := Lib.hid (fun w' (h : BelM m w w') => Space_any m kind w' (h.mok hm))
  have HRS := Lib.hid (fun w' (h : BelM m w w') => refSpace_any m kind w' (h.mok hm))
  have tne : ((spN m kind : Int) != (spN m kind : Int)) = false := by simp
  have HM := Lib.hid hm
  have HI := Lib.hid hi
  unfold moA at *
  clear hm hN hkw hiw hi
  go_enter Tryd.func4, Tryd.ntmps4
  go_upto_region 5 with (first
    | (go_at_call 7; refine (HU.out _ (Below.refl _ _)).mono ?_; rintro e w1 ⟨rfl, hb1⟩; have HB1 : Hid (BelM m w w1) := Lib.hid hb1; obtain ⟨hlt1, k0, k1, k2, k3, k4, k5, k6, k7, k8, k9, k10⟩ := HB1.out.bxc; clear hb1)
    | (go_at_call 12; refine (HF.out _ HB1.out).mono ?_; rintro e w2 ⟨⟨b, rfl⟩, hb2⟩; have HB2 : Hid (BelM m w w2) := Lib.hid (HB1.out.next hb2); clear hb2))
  · go_ret
    exact ⟨rfl, HB2.out.out⟩
  obtain ⟨hlt2, hS2⟩ := HB2.out.bxc
  clear k0 k1 k2 k3 k4 k5 k6 k7 k8 k9 k10
  refine wp_region_held_drew (S := fun w' => BxC m w.heap.size w') (by kernel_rfl) hS2 (fun hHeld => ?_)
  clear hHeld
  refine region_take 0 (some 25) (v := ?_) rfl rfl (by kernel_rfl) (by kernel_rfl) (by kernel_rfl) (fun _ _ _ h => h) (by rfl) ?_ (by assumption) ?_
  rotate_left
  · (intro w' hSw; obtain ⟨s0, s1, s2, s3, s4, s5, s6, s7, s8, s9, s10⟩ := hSw; go_simp; try with_reducible rfl)
  try simp only [Act.put, List.setIfInBounds_toArray, List.set_cons_zero, List.set_cons_succ]
  refine region_take 1 (some 26) (v := ?_) rfl rfl (by kernel_rfl) (by kernel_rfl) (by kernel_rfl) (fun _ _ _ h => h) (by rfl) ?_ (by assumption) ?_
  rotate_left
  · (intro w' hSw; obtain ⟨s0, s1, s2, s3, s4, s5, s6, s7, s8, s9, s10⟩ := hSw; go_simp; try with_reducible rfl)
  try simp only [Act.put, List.setIfInBounds_toArray, List.set_cons_zero, List.set_cons_succ]
  refine region_take 3 (some 28) (v := ?_) rfl rfl (by kernel_rfl) (by kernel_rfl) (by kernel_rfl) (fun _ _ _ h => h) (by rfl) ?_ (by assumption) ?_
  rotate_left
  · (intro w' hSw; obtain ⟨s0, s1, s2, s3, s4, s5, s6, s7, s8, s9, s10⟩ := hSw; go_simp; try with_reducible rfl)
  try simp only [Act.put, List.setIfInBounds_toArray, List.set_cons_zero, List.set_cons_succ]
  refine region_take 4 (some 29) (v := ?_) rfl rfl (by kernel_rfl) (by kernel_rfl) (by kernel_rfl) (fun _ _ _ h => h) (by rfl) ?_ (by assumption) ?_
  rotate_left
  · (intro w' hSw; obtain ⟨s0, s1, s2, s3, s4, s5, s6, s7, s8, s9, s10⟩ := hSw; go_simp; try with_reducible rfl)
  try simp only [Act.put, List.setIfInBounds_toArray, List.set_cons_zero, List.set_cons_succ]
  refine wpAnyH_ready (rs := [2]) (by kernel_rfl) (by simp) ?_
  refine AllReadyH.cons rfl (fun K hK => ?_) AllReadyH.nil
  go_simp
  refine (HS.out _ HB2.out.drew).mono ?_
  rintro e w3 ⟨rfl, hb3⟩
  have HB3 : Hid (BelM m w w3) := Lib.hid (HB2.out.drew.next hb3)
  clear hb3
  go_wp2_with fail
  refine hK.out _ _ HB3.out.bxc.2 (fun hHeld => ?_)
  clear hK K
  try simp only [Act.put, List.setIfInBounds_toArray, List.set_cons_zero, List.set_cons_succ]
  refine wpAnyH_ready (rs := [5]) (by kernel_rfl) (by simp) ?_
  refine AllReadyH.cons rfl (fun K hK => ?_) AllReadyH.nil
  go_simp
  refine (HRS.out _ HB3.out).mono ?_
  rintro e w4 ⟨v4, rfl, ho4⟩
  obtain ⟨A4, c4, hv4, -, -, -⟩ := ho4.form
  rw [ones_n64_len, spL_len] at hv4
  subst hv4
  have HB4 : Hid (BelM m w w4) := Lib.hid (HB3.out.next ho4.below)
  clear ho4
  go_wp2_with fail
  refine hK.out _ _ HB4.out.bxc.2 (fun hHeld => ?_)
  clear hK K
  try simp only [Act.put, List.setIfInBounds_toArray, List.set_cons_zero, List.set_cons_succ]
  refine region_take 6 (some 31) (v := ?_) rfl rfl (by kernel_rfl) (by kernel_rfl) (by kernel_rfl) (fun _ _ _ h => h) (by rfl) ?_ (by assumption) ?_
  rotate_left
  · (intro w hSw; (try dsimp only at hSw); go_simp; try with_reducible rfl)
  try simp only [Act.put, List.setIfInBounds_toArray, List.set_cons_zero, List.set_cons_succ]
  refine region_take 7 (some 32) (v := ?_) rfl rfl (by kernel_rfl) (by kernel_rfl) (by kernel_rfl) (fun _ _ _ h => h) (by rfl) ?_ (by assumption) ?_
  rotate_left
  · (intro w hSw; (try dsimp only at hSw); go_simp; try with_reducible rfl)
  try simp only [Act.put, List.setIfInBounds_toArray, List.set_cons_zero, List.set_cons_succ]
  refine wpAnyH_done (by kernel_rfl) ?_ _
  obtain ⟨hlt4, k0, k1, k2, k3, k4, k5, k6, k7, k8, k9, k10⟩ := HB4.out.bxc
  clear hS2 HU HF HS HRS HB1 HB2 HB3 hlt1 hlt2
  have hn5 := fun w => run_neq_code w 5 5
  have HRF := Lib.hid (fun w' (h : BelM m w w') => refFT m i w' (h.mok HM.out))
  unfold moA at HRF
  cases hft : ftV m i
  case' none =>
    have HFT := Lib.hid (fun w' (h : BelM m w w') => FuncType_none m i w' (h.mok HM.out) HI.out hft)
    rw [show rft m i = -1 by simp [rft, hft]] at HRF
    unfold moA at HFT
    clear hft
    go_upto_region 14 with (first
      | (go_at_call 15; refine (HFT.out _ HB4.out).mono ?_; rintro e w5 ⟨rfl, hb5⟩; have HB5 : Hid (BelM m w w5) := Lib.hid (HB4.out.next hb5); clear hb5; clear k0 k1 k2 k3 k4 k5 k6 k7 k8 k9 k10; obtain ⟨hlt5, k0, k1, k2, k3, k4, k5, k6, k7, k8, k9, k10⟩ := HB5.out.bxc)
      | (go_at_call 16; refine (HRF.out _ (HB5.out.alloc_ _)).mono ?_; rintro e w6 ⟨rfl, hb6⟩; have HB6 : Hid (BelM m w w6) := Lib.hid ((HB5.out.alloc_ _).next hb6); have c0 := (hb6.cell (p := ⟨w5.heap.size, 0, none⟩) (by simp)).trans (World.cell?_alloc_at _ _ _ _ rfl); have c1 := (hb6.cell (p := ⟨w5.heap.size, 1, none⟩) (by simp)).trans (World.cell?_alloc_at _ _ _ _ rfl); have hlt6 := hb6.size; simp at c0 c1 hlt6; clear hb6; clear k0 k1 k2 k3 k4 k5 k6 k7 k8 k9 k10; obtain ⟨hlt6', k0, k1, k2, k3, k4, k5, k6, k7, k8, k9, k10⟩ := HB6.out.bxc))
    clear c0 c1 k0 k1 k2 k3 k4 k5 k6 k7 k8 k9 k10 HFT HRF HB5
    obtain ⟨wz, hwz⟩ : ∃ wz, wz = w6 := ⟨_, rfl⟩
    rw [← hwz] at HB6 ⊢
    have HBz := HB6
    clear hwz HB6 hlt6 hlt6' hlt5 hn5
  case' some k =>
    obtain ⟨t, htk, -⟩ := FuncType_some m i w HM.out HI.out k hft
    have hkl : k < m.ty.l.length := by
      rcases Nat.lt_or_ge k m.ty.l.length with h | h
      · exact h
      · rw [List.getElem?_eq_none h] at htk; cases htk
    have HFT := Lib.hid (fun w' (h : BelM m w w') => by
      obtain ⟨t', ht', hc⟩ := FuncType_some m i w' (h.mok HM.out) HI.out k hft
      obtain rfl : t' = t := Option.some.inj (ht'.symm.trans htk)
      exact hc)
    rw [show rft m i = (k : Int) by simp [rft, hft]] at HRF
    unfold moA at HFT
    obtain ⟨b, o, t', hA, htk', hb, hok, hcell⟩ := HM.out.ty.at_ hkl
    obtain rfl : t' = t := Option.some.inj (htk'.symm.trans htk)
    have q0 : w.cell? ⟨b, o + k * 2, none⟩ = some (.slice t'.p.A t'.p.zs.length t'.p.c) := hcell 0 (by omega)
    have q1 : w.cell? ⟨b, o + k * 2 + 1, none⟩ = some (.slice t'.r.A t'.r.zs.length t'.r.c) := hcell 1 (by omega)
    have HQ0 := Lib.hid q0
    have HQ1 := Lib.hid q1
    have HA := Lib.hid hA
    have HOK := Lib.hid hok
    have hcy := HM.out.ty.c
    have hly := HM.out.ty.le
    have hpl := Nat.le_trans hok.p.le hok.p.c
    have hrl := Nat.le_trans hok.r.le hok.r.c
    have HPL := Lib.hid hpl
    have HRL := Lib.hid hrl
    unfold maxLen at hcy hpl hrl
    have hkI : (k : Int) < (m.ty.l.length : Int) := by omega
    clear hft htk htk' hA hok hcell q0 q1
    go_upto_region 12 with (first
      | (go_at_call 15; refine (HFT.out _ HB4.out).mono ?_; rintro e w5 ⟨vp, vr, rfl, hop, hor, -⟩; obtain ⟨Ap, cp, hvp, -, -, hrp⟩ := hop.form; obtain ⟨Ar, cr, hvr, -, -, hrr⟩ := hor.form; rw [ones_n64_len] at hvp hvr; subst hvp hvr; have HSp := Lib.hid hrp.sl; have HSr := Lib.hid hrr.sl; have HB5 : Hid (BelM m w w5) := Lib.hid (HB4.out.next hop.below); clear hop hor hrp hrr; clear k0 k1 k2 k3 k4 k5 k6 k7 k8 k9 k10; obtain ⟨hlt5, k0, k1, k2, k3, k4, k5, k6, k7, k8, k9, k10⟩ := HB5.out.bxc)
      | (go_at_call 16; refine (HRF.out _ (HB5.out.alloc_ _)).mono ?_; rintro e w6 ⟨rfl, hb6⟩; have HB6 : Hid (BelM m w w6) := Lib.hid ((HB5.out.alloc_ _).next hb6); have c0 := (hb6.cell (p := ⟨w5.heap.size, 0, none⟩) (by simp)).trans (World.cell?_alloc_at _ _ _ _ rfl); have c1 := (hb6.cell (p := ⟨w5.heap.size, 1, none⟩) (by simp)).trans (World.cell?_alloc_at _ _ _ _ rfl); have hlt6 := hb6.size; have HS6p := Lib.hid ((HSp.out.below (bel_alloc hb6)).more (bel_alloc hb6).size); have HS6r := Lib.hid ((HSr.out.below (bel_alloc hb6)).more (bel_alloc hb6).size); simp at c0 c1 hlt6; clear hb6; clear k0 k1 k2 k3 k4 k5 k6 k7 k8 k9 k10; obtain ⟨hlt6', k0, k1, k2, k3, k4, k5, k6, k7, k8, k9, k10⟩ := HB6.out.bxc; rw [HA.out] at k0; have p0 := (HB6.out.out.cell (p := ⟨b, _, none⟩) hb).trans HQ0.out; have p1 := (HB6.out.out.cell (p := ⟨b, _, none⟩) hb).trans HQ1.out; have hb6' := Nat.lt_of_lt_of_le hb HB6.out.out.size))
    have HSt1 := Lib.hid (((HOK.out.keep HB6.out.out.size (Below.kp HB6.out.out)).p).sl)
    have HSt2 := Lib.hid (((HOK.out.keep HB6.out.out.size (Below.kp HB6.out.out)).r).sl)
    clear hn5 k1 k2 k3 k4 k5 k6 k7 k8 k9 k10 HFT HRF HSp HSr HQ0 HQ1
    refine wp_region_held_drew (S := fun w' => w'.cell? ⟨w5.heap.size, 0, none⟩ = some (.slice Ap t'.p.zs.length cp) ∧ w'.cell? ⟨w5.heap.size, 1, none⟩ = some (.slice Ar t'.r.zs.length cr) ∧ w'.cell? ⟨w.heap.size, 0, none⟩ = some (.slice (some ⟨b, o, none⟩) m.ty.l.length m.ty.c) ∧
      w'.cell? ⟨b, o + k * 2, none⟩ = some (.slice t'.p.A t'.p.zs.length t'.p.c) ∧ w'.cell? ⟨b, o + k * 2 + 1, none⟩ = some (.slice t'.r.A t'.r.zs.length t'.r.c)) (by kernel_rfl) ⟨c0, c1, k0, p0, p1⟩ (fun hHeld => ?_)
    refine region_take 0 (some 59) (v := ?_) rfl rfl (by kernel_rfl) (by kernel_rfl) (by kernel_rfl) (fun _ _ _ h => h) (by rfl) ?_ (by assumption) ?_
    rotate_left
    · (intro w hSw; (try dsimp only at hSw); go_simp; try with_reducible rfl)
    try simp only [Act.put, List.setIfInBounds_toArray, List.set_cons_zero, List.set_cons_succ]
    refine region_take 1 (some 60) (v := ?_) rfl rfl (by kernel_rfl) (by kernel_rfl) (by kernel_rfl) (fun _ _ _ h => h) (by rfl) ?_ (by assumption) ?_
    rotate_left
    · (intro w hSw; (try dsimp only at hSw); go_simp; try with_reducible rfl)
    try simp only [Act.put, List.setIfInBounds_toArray, List.set_cons_zero, List.set_cons_succ]
    refine region_take 2 (some 61) (v := ?_) rfl rfl (by kernel_rfl) (by kernel_rfl) (by kernel_rfl) (fun _ _ _ h => h) (by rfl) ?_ (by assumption) ?_
    rotate_left
    · (intro w hSw; (try dsimp only at hSw); go_simp; try with_reducible rfl)
    try simp only [Act.put, List.setIfInBounds_toArray, List.set_cons_zero, List.set_cons_succ]
    refine region_take 3 (some 62) (v := ?_) rfl rfl (by kernel_rfl) (by kernel_rfl) (by kernel_rfl) (fun _ _ _ h => h) (by rfl) ?_ (by assumption) ?_
    rotate_left
    · (intro w hSw; (try dsimp only at hSw); go_simp; try with_reducible rfl)
    try simp only [Act.put, List.setIfInBounds_toArray, List.set_cons_zero, List.set_cons_succ]
    refine region_take 4 (some 63) (v := ?_) rfl rfl (by kernel_rfl) (by kernel_rfl) (by kernel_rfl) (fun _ _ _ h => h) (by rfl) ?_ (by assumption) ?_
    rotate_left
    · (intro w hSw; (try dsimp only at hSw); go_simp; try with_reducible rfl)
    try simp only [Act.put, List.setIfInBounds_toArray, List.set_cons_zero, List.set_cons_succ]
    refine region_take 5 (some 64) (v := ?_) rfl rfl (by kernel_rfl) (by kernel_rfl) (by kernel_rfl) (fun _ _ _ h => h) (by rfl) ?_ (by assumption) ?_
    rotate_left
    · (intro w hSw; (try dsimp only at hSw); go_simp; try with_reducible rfl)
    try simp only [Act.put, List.setIfInBounds_toArray, List.set_cons_zero, List.set_cons_succ]
    refine region_take 6 (some 65) (v := ?_) rfl rfl (by kernel_rfl) (by kernel_rfl) (by kernel_rfl) (fun _ _ _ h => h) (by rfl) ?_ (by assumption) ?_
    rotate_left
    · (intro w hSw; (try dsimp only at hSw); go_simp; try with_reducible rfl)
    try simp only [Act.put, List.setIfInBounds_toArray, List.set_cons_zero, List.set_cons_succ]
    refine region_take 7 (some 66) (v := ?_) rfl rfl (by kernel_rfl) (by kernel_rfl) (by kernel_rfl) (fun _ _ _ h => h) (by rfl) ?_ (by assumption) ?_
    rotate_left
    · (intro w hSw; (try dsimp only at hSw); go_simp; try with_reducible rfl)
    try simp only [Act.put, List.setIfInBounds_toArray, List.set_cons_zero, List.set_cons_succ]
    refine region_take 8 (some 67) (v := ?_) rfl rfl (by kernel_rfl) (by kernel_rfl) (by kernel_rfl) (fun _ _ _ h => h) (by rfl) ?_ (by assumption) ?_
    rotate_left
    · (intro w hSw; (try dsimp only at hSw); go_simp; try with_reducible rfl)
    try simp only [Act.put, List.setIfInBounds_toArray, List.set_cons_zero, List.set_cons_succ]
    refine region_take 9 (some 68) (v := ?_) rfl rfl (by kernel_rfl) (by kernel_rfl) (by kernel_rfl) (fun _ _ _ h => h) (by rfl) ?_ (by assumption) ?_
    rotate_left
    · (intro w hSw; (try dsimp only at hSw); go_simp; try with_reducible rfl)
    try simp only [Act.put, List.setIfInBounds_toArray, List.set_cons_zero, List.set_cons_succ]
    refine region_take 10 (some 69) (v := ?_) rfl rfl (by kernel_rfl) (by kernel_rfl) (by kernel_rfl) (fun _ _ _ h => h) (by rfl) ?_ (by assumption) ?_
    rotate_left
    · (intro w hSw; (try dsimp only at hSw); go_simp; try with_reducible rfl)
    try simp only [Act.put, List.setIfInBounds_toArray, List.set_cons_zero, List.set_cons_succ]
    refine wpAnyH_ready (rs := [11]) (by kernel_rfl) (by simp) ?_
    refine AllReadyH.cons rfl (fun K hK => ?_) AllReadyH.nil
    go_simp
    refine (Ints_same t'.p.zs Ap t'.p.A cp t'.p.c w6.drew HS6p.out HSt1.out HPL.out).mono ?_
    rintro e w7 ⟨rfl, n7, rfl⟩
    go_wp2_with fail
    refine hK.out _ _ (show _ ∧ _ from ⟨c0, c1, k0, p0, p1⟩) (fun hHeld => ?_)
    clear hK K
    try simp only [Act.put, List.setIfInBounds_toArray, List.set_cons_zero, List.set_cons_succ]
    refine region_take 12 (some 71) (v := ?_) rfl rfl (by kernel_rfl) (by kernel_rfl) (by kernel_rfl) (fun _ _ _ h => h) (by rfl) ?_ (by assumption) ?_
    rotate_left
    · (intro w hSw; (try dsimp only at hSw); go_simp; try with_reducible rfl)
    try simp only [Act.put, List.setIfInBounds_toArray, List.set_cons_zero, List.set_cons_succ]
    refine region_take 13 (some 72) (v := ?_) rfl rfl (by kernel_rfl) (by kernel_rfl) (by kernel_rfl) (fun _ _ _ h => h) (by rfl) ?_ (by assumption) ?_
    rotate_left
    · (intro w hSw; (try dsimp only at hSw); go_simp; try with_reducible rfl)
    try simp only [Act.put, List.setIfInBounds_toArray, List.set_cons_zero, List.set_cons_succ]
    refine region_take 14 (some 73) (v := ?_) rfl rfl (by kernel_rfl) (by kernel_rfl) (by kernel_rfl) (fun _ _ _ h => h) (by rfl) ?_ (by assumption) ?_
    rotate_left
    · (intro w hSw; (try dsimp only at hSw); go_simp; try with_reducible rfl)
    try simp only [Act.put, List.setIfInBounds_toArray, List.set_cons_zero, List.set_cons_succ]
    refine region_take 15 (some 74) (v := ?_) rfl rfl (by kernel_rfl) (by kernel_rfl) (by kernel_rfl) (fun _ _ _ h => h) (by rfl) ?_ (by assumption) ?_
    rotate_left
    · (intro w hSw; (try dsimp only at hSw); go_simp; try with_reducible rfl)
    try simp only [Act.put, List.setIfInBounds_toArray, List.set_cons_zero, List.set_cons_succ]
    refine region_take 16 (some 75) (v := ?_) rfl rfl (by kernel_rfl) (by kernel_rfl) (by kernel_rfl) (fun _ _ _ h => h) (by rfl) ?_ (by assumption) ?_
    rotate_left
    · (intro w hSw; (try dsimp only at hSw); go_simp; try with_reducible rfl)
    try simp only [Act.put, List.setIfInBounds_toArray, List.set_cons_zero, List.set_cons_succ]
    refine region_take 17 (some 76) (v := ?_) rfl rfl (by kernel_rfl) (by kernel_rfl) (by kernel_rfl) (fun _ _ _ h => h) (by rfl) ?_ (by assumption) ?_
    rotate_left
    · (intro w hSw; (try dsimp only at hSw); go_simp; try with_reducible rfl)
    try simp only [Act.put, List.setIfInBounds_toArray, List.set_cons_zero, List.set_cons_succ]
    refine region_take 18 (some 77) (v := ?_) rfl rfl (by kernel_rfl) (by kernel_rfl) (by kernel_rfl) (fun _ _ _ h => h) (by rfl) ?_ (by assumption) ?_
    rotate_left
    · (intro w hSw; (try dsimp only at hSw); go_simp; try with_reducible rfl)
    try simp only [Act.put, List.setIfInBounds_toArray, List.set_cons_zero, List.set_cons_succ]
    refine region_take 19 (some 78) (v := ?_) rfl rfl (by kernel_rfl) (by kernel_rfl) (by kernel_rfl) (fun _ _ _ h => h) (by rfl) ?_ (by assumption) ?_
    rotate_left
    · (intro w hSw; (try dsimp only at hSw); go_simp; try with_reducible rfl)
    try simp only [Act.put, List.setIfInBounds_toArray, List.set_cons_zero, List.set_cons_succ]
    refine region_take 20 (some 79) (v := ?_) rfl rfl (by kernel_rfl) (by kernel_rfl) (by kernel_rfl) (fun _ _ _ h => h) (by rfl) ?_ (by assumption) ?_
    rotate_left
    · (intro w hSw; (try dsimp only at hSw); go_simp; try with_reducible rfl)
    try simp only [Act.put, List.setIfInBounds_toArray, List.set_cons_zero, List.set_cons_succ]
    refine region_take 21 (some 80) (v := ?_) rfl rfl (by kernel_rfl) (by kernel_rfl) (by kernel_rfl) (fun _ _ _ h => h) (by rfl) ?_ (by assumption) ?_
    rotate_left
    · (intro w hSw; (try dsimp only at hSw); go_simp; try with_reducible rfl)
    try simp only [Act.put, List.setIfInBounds_toArray, List.set_cons_zero, List.set_cons_succ]
    refine region_take 22 (some 81) (v := ?_) rfl rfl (by kernel_rfl) (by kernel_rfl) (by kernel_rfl) (fun _ _ _ h => h) (by rfl) ?_ (by assumption) ?_
    rotate_left
    · (intro w hSw; (try dsimp only at hSw); go_simp; try with_reducible rfl)
    try simp only [Act.put, List.setIfInBounds_toArray, List.set_cons_zero, List.set_cons_succ]
    refine wpAnyH_ready (rs := [23]) (by kernel_rfl) (by simp) ?_
    refine AllReadyH.cons rfl (fun K hK => ?_) AllReadyH.nil
    go_simp
    refine (Ints_same t'.r.zs Ar t'.r.A cr t'.r.c (w6.drewN (1 + n7)) HS6r.out HSt2.out HRL.out).mono ?_
    rintro e w8 ⟨rfl, n8, rfl⟩
    go_wp2_with fail
    refine hK.out _ _ (show _ ∧ _ from ⟨c0, c1, k0, p0, p1⟩) (fun hHeld => ?_)
    clear hK K
    try simp only [Act.put, List.setIfInBounds_toArray, List.set_cons_zero, List.set_cons_succ]
    refine region_take 24 (some 83) (v := ?_) rfl rfl (by kernel_rfl) (by kernel_rfl) (by kernel_rfl) (fun _ _ _ h => h) (by rfl) ?_ (by assumption) ?_
    rotate_left
    · (intro w hSw; (try dsimp only at hSw); go_simp; try with_reducible rfl)
    try simp only [Act.put, List.setIfInBounds_toArray, List.set_cons_zero, List.set_cons_succ]
    refine region_take 25 (some 84) (v := ?_) rfl rfl (by kernel_rfl) (by kernel_rfl) (by kernel_rfl) (fun _ _ _ h => h) (by rfl) ?_ (by assumption) ?_
    rotate_left
    · (intro w hSw; (try dsimp only at hSw); go_simp; try with_reducible rfl)
    try simp only [Act.put, List.setIfInBounds_toArray, List.set_cons_zero, List.set_cons_succ]
    refine wpAnyH_done (by kernel_rfl) ?_ _
    go_upto_region 14 with (fail)
    have HBz : Hid (BelM m w _) := Lib.hid (HB6.out.drewN ((1 + n7) + n8))
    clear c0 c1 k0 p0 p1 HB5 HSt1 HSt2 HS6p HS6r HPL HRL HOK HA
    obtain ⟨wz, hwz⟩ : ∃ wz, wz = w6.drewN ((1 + n7) + n8) := ⟨_, rfl⟩
    rw [← hwz] at HBz ⊢
    clear hwz HB6 hlt6 hlt6' hlt5 hb6' hkI hkl hcy hly hpl hrl hb
  all_goals
    clear HB4 hlt4
    obtain ⟨hltz, k0, k1, k2, k3, k4, k5, k6, k7, k8, k9, k10⟩ := HBz.out.bxc
    have HR3 := Lib.hid (fun w' (h : BelM m w w') => refSpace_any m 3 w' (h.mok HM.out))
    unfold moA at HR3
    have hs3 := spN3 m
    have hle3 := imp_le m 3
    have hcase : (i < 0 ∨ ((imp m 3).length : Int) + (m.gl.l.length : Int) ≤ i) ∨ (∃ j x, i = ((j : Nat) : Int) ∧ (imp m 3)[j]? = some x) ∨ (∃ j x, i = ((imp m 3).length : Int) + ((j : Nat) : Int) ∧ m.gl.l[j]? = some x) := by
      by_cases h1 : i < 0 ∨ ((imp m 3).length : Int) + (m.gl.l.length : Int) ≤ i
      · exact .inl h1
      by_cases h2 : i < ((imp m 3).length : Int)
      · exact .inr (.inl ⟨i.toNat, (imp m 3)[i.toNat]'(by omega), by omega, List.getElem?_eq_getElem _⟩)
      · exact .inr (.inr ⟨(i - (imp m 3).length).toNat, m.gl.l[(i - (imp m 3).length).toNat]'(by omega), by omega, List.getElem?_eq_getElem _⟩)
    rcases hcase with hg | ⟨j, x, rfl, hx⟩ | ⟨j, x, rfl, hx⟩
    · have HG := Lib.hid (fun w' (h : BelM m w w') => Global_none m i w' (h.mok HM.out) HI.out hg)
      unfold moA at HG
      have hq5 := fun w => run_eql_code w 5 5
      have HS3 := Lib.hid hs3
      have hout : decide (i < 0) = true ∨ (decide (i < 0) = false ∧ decide ((spN m 3 : Int) ≤ i) = true ∧ (spN m 3 : Int) ≤ i) := by
        by_cases h : i < 0
        · exact .inl (by simpa using h)
        · exact .inr ⟨by simpa using h, by simp; omega, by omega⟩
      clear hs3 hg
      rcases hout with t0 | ⟨t0, t1, t2⟩
      all_goals
        go_wp2_with (first
          | (go_at_call 18; refine (HG.out _ HBz.out).mono ?_; rintro e w9 ⟨rfl, hb9⟩; have HB9 : Hid (BelM m w w9) := Lib.hid (HBz.out.next hb9); clear hb9; clear k0 k1 k2 k3 k4 k5 k6 k7 k8 k9 k10; obtain ⟨hlt9, k0, k1, k2, k3, k4, k5, k6, k7, k8, k9, k10⟩ := HB9.out.bxc)
          | (go_at_call 14; refine (HR3.out _ HB9.out).mono ?_; rintro e w10 ⟨v10, rfl, ho10⟩; obtain ⟨A10, c10, hv10, -, -, -⟩ := ho10.form; rw [ones_n64_len, spL_len] at hv10; subst hv10; have HB10 : Hid (BelM m w w10) := Lib.hid (HB9.out.next ho10.below); clear ho10))
        go_ret
        exact ⟨rfl, HB10.out.out⟩
    · obtain ⟨q, hsp, him⟩ := spL_far (m := m) (q := 3) (by omega) hx
      have hjl : j < (imp m 3).length := by
        rcases Nat.lt_or_ge j (imp m 3).length with h | h
        · exact h
        · rw [List.getElem?_eq_none h] at hx; cases hx
      have hql : q < m.im.l.length := by
        rcases Nat.lt_or_ge q m.im.l.length with h | h
        · exact h
        · rw [List.getElem?_eq_none h] at him; cases him
      obtain ⟨b, o, x', hA, hx', hb, -, hcell⟩ := HM.out.im.at_ hql
      obtain rfl : x' = x := Option.some.inj (hx'.symm.trans him)
      have HE := Lib.hid hcell
      have HA := Lib.hid hA
      have HSP := Lib.hid hsp
      have HG := Lib.hid (fun w' (h : BelM m w w') => Global_far m j x' w' (h.mok HM.out) hx)
      unfold moA at HG
      have hci := HM.out.im.c
      have hli := HM.out.im.le
      have hrb := HM.out.im.rb
      have hrbg := HM.out.gl.rb
      unfold RB at hrb hrbg
      unfold maxLen at hci
      have hjs : j < spN m 3 := by omega
      have hjsI : (j : Int) < (spN m 3 : Int) := by omega
      have HS3 := Lib.hid hs3
      have t0 : decide ((j : Int) < 0) = false := by simp
      have t1 : decide ((spN m 3 : Int) ≤ (j : Int)) = false := by simp; omega
      have t3 : decide (0 ≤ (q : Int)) = true := by simp
      have tq : (q : Int) < (m.im.l.length : Int) := by omega
      have e1 : (x'.ty == x'.ty) = true := by simp
      have e2 : (x'.mu == x'.mu) = true := by simp
      clear hs3 hx him hx' hcell hA hsp hjl
      go_upto_region 19 with (first
        | (go_at_call 18; refine (HG.out _ HBz.out).mono ?_; rintro e w9 ⟨rfl, hb9⟩; have HB9 : Hid (BelM m w w9) := Lib.hid (HBz.out.next hb9); clear hb9; clear k0 k1 k2 k3 k4 k5 k6 k7 k8 k9 k10; obtain ⟨hlt9, k0, k1, k2, k3, k4, k5, k6, k7, k8, k9, k10⟩ := HB9.out.bxc)
        | (go_at_call 14; refine (HR3.out _ HB9.out).mono ?_; rintro e w10 ⟨v10, rfl, ho10⟩; obtain ⟨-, c10, bs, os, hv10, -, hc10, hm10, hbs, hcs⟩ := ho10.num HSP.out; rw [spL_len] at hv10 hc10; subst hv10; have HB10 : Hid (BelM m w w10) := Lib.hid (HB9.out.next ho10.below); clear ho10; clear k0 k1 k2 k3 k4 k5 k6 k7 k8 k9 k10; obtain ⟨hlt10, -, k1, -⟩ := HB10.out.bxc; rw [HA.out] at k1))
      have hcell' : ∀ i, i < 8 → w10.cell? ⟨b, o + q * 8 + i, none⟩ = x'.cells[i]? := fun i hi => (HB10.out.out.cell (p := ⟨b, _, none⟩) hb).trans (HE.out i hi)
      obtain ⟨q0, q1, q2, q3, q4, q5, q6, q7⟩ := Im.eight hcell'
      have hb10 := Nat.lt_of_lt_of_le hb HB10.out.out.size
      clear hcell' HE HR3 HG
      refine wp_region_held_drew (S := fun w' => (w'.cell? ⟨w.heap.size, 1, none⟩ = some (.slice (some ⟨b, o, none⟩) m.im.l.length m.im.c) ∧ w'.cell? ⟨bs, os + j, none⟩ = some (.int .i64 (q : Int))) ∧
        w'.cell? ⟨b, o + q * 8, none⟩ = some (.string x'.md) ∧ w'.cell? ⟨b, o + q * 8 + 1, none⟩ = some (.string x'.nm) ∧ w'.cell? ⟨b, o + q * 8 + 2, none⟩ = some (.int .i64 x'.kd) ∧ w'.cell? ⟨b, o + q * 8 + 3, none⟩ = some (.int .i64 x'.ty) ∧
        w'.cell? ⟨b, o + q * 8 + 4, none⟩ = some (.bool x'.mu) ∧ w'.cell? ⟨b, o + q * 8 + 5, none⟩ = some (.int .i64 x'.lm.mn) ∧ w'.cell? ⟨b, o + q * 8 + 6, none⟩ = some (.int .i64 x'.lm.mx) ∧ w'.cell? ⟨b, o + q * 8 + 7, none⟩ = some (.bool x'.lm.hs)) (by kernel_rfl) ⟨⟨k1, hcs⟩, q0, q1, q2, q3, q4, q5, q6, q7⟩ (fun hHeld => ?_)
      refine region_take 0 (some 126) (v := ?_) rfl rfl (by kernel_rfl) (by kernel_rfl) (by kernel_rfl) (fun _ _ _ h => h) (by rfl) ?_ (by assumption) ?_
      rotate_left
      · (intro w hSw; (try dsimp only at hSw); go_simp; try with_reducible rfl)
      try simp only [Act.put, List.setIfInBounds_toArray, List.set_cons_zero, List.set_cons_succ]
      refine region_take 1 (some 127) (v := ?_) rfl rfl (by kernel_rfl) (by kernel_rfl) (by kernel_rfl) (fun _ _ _ h => h) (by rfl) ?_ (by assumption) ?_
      rotate_left
      · (intro w hSw; (try dsimp only at hSw); go_simp; try with_reducible rfl)
      try simp only [Act.put, List.setIfInBounds_toArray, List.set_cons_zero, List.set_cons_succ]
      refine region_take 2 (some 128) (v := ?_) rfl rfl (by kernel_rfl) (by kernel_rfl) (by kernel_rfl) (fun _ _ _ h => h) (by rfl) ?_ (by assumption) ?_
      rotate_left
      · (intro w hSw; (try dsimp only at hSw); go_simp; try with_reducible rfl)
      try simp only [Act.put, List.setIfInBounds_toArray, List.set_cons_zero, List.set_cons_succ]
      refine region_take 3 (some 129) (v := ?_) rfl rfl (by kernel_rfl) (by kernel_rfl) (by kernel_rfl) (fun _ _ _ h => h) (by rfl) ?_ (by assumption) ?_
      rotate_left
      · (intro w hSw; (try dsimp only at hSw); go_simp; try with_reducible rfl)
      try simp only [Act.put, List.setIfInBounds_toArray, List.set_cons_zero, List.set_cons_succ]
      refine region_take 4 (some 130) (v := ?_) rfl rfl (by kernel_rfl) (by kernel_rfl) (by kernel_rfl) (fun _ _ _ h => h) (by rfl) ?_ (by assumption) ?_
      rotate_left
      · (intro w hSw; (try dsimp only at hSw); go_simp; try with_reducible rfl)
      try simp only [Act.put, List.setIfInBounds_toArray, List.set_cons_zero, List.set_cons_succ]
      refine region_take 5 (some 131) (v := ?_) rfl rfl (by kernel_rfl) (by kernel_rfl) (by kernel_rfl) (fun _ _ _ h => h) (by rfl) ?_ (by assumption) ?_
      rotate_left
      · (intro w hSw; (try dsimp only at hSw); go_simp; try with_reducible rfl)
      try simp only [Act.put, List.setIfInBounds_toArray, List.set_cons_zero, List.set_cons_succ]
      refine region_take 6 (some 132) (v := ?_) rfl rfl (by kernel_rfl) (by kernel_rfl) (by kernel_rfl) (fun _ _ _ h => h) (by rfl) ?_ (by assumption) ?_
      rotate_left
      · (intro w hSw; (try dsimp only at hSw); go_simp; try with_reducible rfl)
      try simp only [Act.put, List.setIfInBounds_toArray, List.set_cons_zero, List.set_cons_succ]
      refine region_take 7 (some 133) (v := ?_) rfl rfl (by kernel_rfl) (by kernel_rfl) (by kernel_rfl) (fun _ _ _ h => h) (by rfl) ?_ (by assumption) ?_
      rotate_left
      · (intro w hSw; (try dsimp only at hSw); go_simp; try with_reducible rfl)
      try simp only [Act.put, List.setIfInBounds_toArray, List.set_cons_zero, List.set_cons_succ]
      refine wpAnyH_ready (rs := [8]) (by kernel_rfl) (by simp) ?_
      refine AllReadyH.cons rfl (fun K hK => ?_) AllReadyH.nil
      go_simp
      refine hK.out _ _ (show _ ∧ _ from ⟨⟨(ap hlt10).trans k1, (ap hbs).trans hcs⟩, (ap hb10).trans q0, (ap hb10).trans q1, (ap hb10).trans q2, (ap hb10).trans q3, (ap hb10).trans q4, (ap hb10).trans q5, (ap hb10).trans q6, (ap hb10).trans q7⟩) (fun hHeld => ?_)
      clear hK K
      try simp only [Act.put, List.setIfInBounds_toArray, List.set_cons_zero, List.set_cons_succ]
      refine wpAnyH_ready (rs := [9]) (by kernel_rfl) (by simp) ?_
      refine AllReadyH.cons rfl (fun K hK => ?_) AllReadyH.nil
      go_simp
      refine hK.out _ _ (show _ ∧ _ from ⟨⟨(ap hlt10).trans k1, (ap hbs).trans hcs⟩, (ap hb10).trans q0, (ap hb10).trans q1, (ap hb10).trans q2, (ap hb10).trans q3, (ap hb10).trans q4, (ap hb10).trans q5, (ap hb10).trans q6, (ap hb10).trans q7⟩) (fun hHeld => ?_)
      clear hK K
      try simp only [Act.put, List.setIfInBounds_toArray, List.set_cons_zero, List.set_cons_succ]
      refine wpAnyH_done (by kernel_rfl) ?_ _
      go_wp2_with fail
      go_ret
      exact ⟨rfl, (HB10.out.out.alloc HB10.out.out.size _).drew⟩
    · have hjl : j < m.gl.l.length := by
        rcases Nat.lt_or_ge j m.gl.l.length with h | h
        · exact h
        · rw [List.getElem?_eq_none h] at hx; cases hx
      have hsp := spL_own (m := m) (q := 3) (by omega) (j := j) (by simp [ownN]; exact hjl)
      obtain ⟨b, o, x', hA, hx', hb, -, hcell⟩ := HM.out.gl.at_ hjl
      obtain rfl : x' = x := Option.some.inj (hx'.symm.trans hx)
      have HE := Lib.hid hcell
      have HA := Lib.hid hA
      have HG := Lib.hid (fun w' (h : BelM m w w') => Global_own m j x' w' (h.mok HM.out) hx)
      unfold moA at HG
      have hcg := HM.out.gl.c
      have hlg := HM.out.gl.le
      have hrb := HM.out.im.rb
      have hrbg := HM.out.gl.rb
      unfold RB at hrb hrbg
      unfold maxLen at hcg
      obtain ⟨g, hg⟩ : ∃ g : Nat, g = (imp m 3).length + j := ⟨_, rfl⟩
      have hgI : ((imp m 3).length : Int) + (j : Int) = (g : Int) := by omega
      have hsp' : (spL m 3)[g]? = some (-1 - (j : Int)) := by rw [hg]; exact hsp
      have HSP := Lib.hid hsp'
      rw [hgI] at HG HI ⊢
      have hjs : g < spN m 3 := by omega
      have hjsI : (g : Int) < (spN m 3 : Int) := by omega
      have t0 : decide ((g : Int) < 0) = false := by simp
      have t1 : decide ((spN m 3 : Int) ≤ (g : Int)) = false := by simp; omega
      have t3 : decide (0 ≤ -1 - (j : Int)) = false := by simp; omega
      have t4 : ¬ 0 ≤ -1 - (j : Int) := by omega
      have tq : (j : Int) < (m.gl.l.length : Int) := by omega
      have e1 : (x'.ty == x'.ty) = true := by simp
      have e2 : (x'.mu == x'.mu) = true := by simp
      have hwr : IntKind.i64.wrap (-1 - (-1 - (j : Int))) = (j : Int) := by rw [IntWalk.i64_in _ (by omega)]; omega
      have HWR := Lib.hid hwr
      clear hs3 hx hx' hcell hA hsp hsp' hg hgI hwr
      go_upto_region 21 with (first
        | (go_at_call 18; refine (HG.out _ HBz.out).mono ?_; rintro e w9 ⟨rfl, hb9⟩; have HB9 : Hid (BelM m w w9) := Lib.hid (HBz.out.next hb9); clear hb9; clear k0 k1 k2 k3 k4 k5 k6 k7 k8 k9 k10; obtain ⟨hlt9, k0, k1, k2, k3, k4, k5, k6, k7, k8, k9, k10⟩ := HB9.out.bxc)
        | (go_at_call 14; refine (HR3.out _ HB9.out).mono ?_; rintro e w10 ⟨v10, rfl, ho10⟩; obtain ⟨-, c10, bs, os, hv10, -, hc10, hm10, hbs, hcs⟩ := ho10.num HSP.out; rw [spL_len] at hv10 hc10; subst hv10; have HB10 : Hid (BelM m w w10) := Lib.hid (HB9.out.next ho10.below); clear ho10; clear k0 k1 k2 k3 k4 k5 k6 k7 k8 k9 k10; obtain ⟨hlt10, -, -, -, -, -, k5, -⟩ := HB10.out.bxc; rw [HA.out] at k5))
      have hwr := HWR.out
      have hcell' : ∀ i, i < 11 → w10.cell? ⟨b, o + j * 11 + i, none⟩ = x'.cells[i]? := fun i hi => (HB10.out.out.cell (p := ⟨b, _, none⟩) hb).trans (HE.out i hi)
      have p0 : w10.cell? ⟨b, o + j * 11, none⟩ = some (.int .i64 x'.ty) := hcell' 0 (by omega)
      have p1 : w10.cell? ⟨b, o + j * 11 + 1, none⟩ = some (.bool x'.mu) := hcell' 1 (by omega)
      obtain ⟨q0, q1, q2, q3, q4, q5, q6, q7, q8⟩ : w10.cell? ⟨b, o + j * 11 + 2, none⟩ = some (.int .i64 x'.i.n.op) ∧ w10.cell? ⟨b, o + j * 11 + 3, none⟩ = some (.int .i64 x'.i.n.a) ∧ w10.cell? ⟨b, o + j * 11 + 4, none⟩ = some (.int .i64 x'.i.n.b) ∧ w10.cell? ⟨b, o + j * 11 + 5, none⟩ = some (.int .u64 x'.i.n.v) ∧ w10.cell? ⟨b, o + j * 11 + 6, none⟩ = some (.int .i64 x'.i.n.t) ∧
          w10.cell? ⟨b, o + j * 11 + 7, none⟩ = some (.slice x'.i.p.AL x'.i.n.L.length x'.i.p.cL) ∧ w10.cell? ⟨b, o + j * 11 + 8, none⟩ = some (.slice x'.i.p.Ab (len x'.i.n.body) x'.i.p.cb) ∧ w10.cell? ⟨b, o + j * 11 + 9, none⟩ = some (.slice x'.i.p.Ae (len x'.i.n.els) x'.i.p.ce) ∧ w10.cell? ⟨b, o + j * 11 + 10, none⟩ = some (.bool x'.i.n.he) :=
        ⟨hcell' 2 (by omega), hcell' 3 (by omega), hcell' 4 (by omega), hcell' 5 (by omega), hcell' 6 (by omega), hcell' 7 (by omega), hcell' 8 (by omega), hcell' 9 (by omega), hcell' 10 (by omega)⟩
      have hb10 := Nat.lt_of_lt_of_le hb HB10.out.out.size
      clear hcell' HE HR3 HG
      refine wp_region_held_drew (S := fun w' => (w'.cell? ⟨w.heap.size, 5, none⟩ = some (.slice (some ⟨b, o, none⟩) m.gl.l.length m.gl.c) ∧ w'.cell? ⟨bs, os + g, none⟩ = some (.int .i64 (-1 - (j : Int)))) ∧
        (w'.cell? ⟨b, o + j * 11, none⟩ = some (.int .i64 x'.ty) ∧ w'.cell? ⟨b, o + j * 11 + 1, none⟩ = some (.bool x'.mu)) ∧ w'.cell? ⟨b, o + j * 11 + 2, none⟩ = some (.int .i64 x'.i.n.op) ∧ w'.cell? ⟨b, o + j * 11 + 3, none⟩ = some (.int .i64 x'.i.n.a) ∧ w'.cell? ⟨b, o + j * 11 + 4, none⟩ = some (.int .i64 x'.i.n.b) ∧ w'.cell? ⟨b, o + j * 11 + 5, none⟩ = some (.int .u64 x'.i.n.v) ∧ w'.cell? ⟨b, o + j * 11 + 6, none⟩ = some (.int .i64 x'.i.n.t) ∧
        w'.cell? ⟨b, o + j * 11 + 7, none⟩ = some (.slice x'.i.p.AL x'.i.n.L.length x'.i.p.cL) ∧ w'.cell? ⟨b, o + j * 11 + 8, none⟩ = some (.slice x'.i.p.Ab (len x'.i.n.body) x'.i.p.cb) ∧ w'.cell? ⟨b, o + j * 11 + 9, none⟩ = some (.slice x'.i.p.Ae (len x'.i.n.els) x'.i.p.ce) ∧ w'.cell? ⟨b, o + j * 11 + 10, none⟩ = some (.bool x'.i.n.he)) (by kernel_rfl) ⟨⟨k5, hcs⟩, ⟨p0, p1⟩, q0, q1, q2, q3, q4, q5, q6, q7, q8⟩ (fun hHeld => ?_)
      refine region_take 0 (some 154) (v := ?_) rfl rfl (by kernel_rfl) (by kernel_rfl) (by kernel_rfl) (fun _ _ _ h => h) (by rfl) ?_ (by assumption) ?_
      rotate_left
      · (intro w hSw; (try dsimp only at hSw); go_simp; try with_reducible rfl)
      try simp only [Act.put, List.setIfInBounds_toArray, List.set_cons_zero, List.set_cons_succ]
      refine region_take 1 (some 155) (v := ?_) rfl rfl (by kernel_rfl) (by kernel_rfl) (by kernel_rfl) (fun _ _ _ h => h) (by rfl) ?_ (by assumption) ?_
      rotate_left
      · (intro w hSw; (try dsimp only at hSw); go_simp; try with_reducible rfl)
      try simp only [Act.put, List.setIfInBounds_toArray, List.set_cons_zero, List.set_cons_succ]
      refine region_take 2 (some 156) (v := ?_) rfl rfl (by kernel_rfl) (by kernel_rfl) (by kernel_rfl) (fun _ _ _ h => h) (by rfl) ?_ (by assumption) ?_
      rotate_left
      · (intro w hSw; (try dsimp only at hSw); go_simp; try with_reducible rfl)
      try simp only [Act.put, List.setIfInBounds_toArray, List.set_cons_zero, List.set_cons_succ]
      refine region_take 3 (some 157) (v := ?_) rfl rfl (by kernel_rfl) (by kernel_rfl) (by kernel_rfl) (fun _ _ _ h => h) (by rfl) ?_ (by assumption) ?_
      rotate_left
      · (intro w hSw; (try dsimp only at hSw); go_simp; try with_reducible rfl)
      try simp only [Act.put, List.setIfInBounds_toArray, List.set_cons_zero, List.set_cons_succ]
      refine region_take 4 (some 158) (v := ?_) rfl rfl (by kernel_rfl) (by kernel_rfl) (by kernel_rfl) (fun _ _ _ h => h) (by rfl) ?_ (by assumption) ?_
      rotate_left
      · (intro w hSw; (try dsimp only at hSw); go_simp; try with_reducible rfl)
      try simp only [Act.put, List.setIfInBounds_toArray, List.set_cons_zero, List.set_cons_succ]
      refine region_take 5 (some 159) (v := ?_) rfl rfl (by kernel_rfl) (by kernel_rfl) (by kernel_rfl) (fun _ _ _ h => h) (by rfl) ?_ (by assumption) ?_
      rotate_left
      · (intro w hSw; (try dsimp only at hSw); go_simp; try with_reducible rfl)
      try simp only [Act.put, List.setIfInBounds_toArray, List.set_cons_zero, List.set_cons_succ]
      refine region_take 6 (some 160) (v := ?_) rfl rfl (by kernel_rfl) (by kernel_rfl) (by kernel_rfl) (fun _ _ _ h => h) (by rfl) ?_ (by assumption) ?_
      rotate_left
      · (intro w hSw; (try dsimp only at hSw); go_simp; try with_reducible rfl)
      try simp only [Act.put, List.setIfInBounds_toArray, List.set_cons_zero, List.set_cons_succ]
      refine region_take 7 (some 161) (v := ?_) rfl rfl (by kernel_rfl) (by kernel_rfl) (by kernel_rfl) (fun _ _ _ h => h) (by rfl) ?_ (by assumption) ?_
      rotate_left
      · (intro w hSw; (try dsimp only at hSw); go_simp; try with_reducible rfl)
      try simp only [Act.put, List.setIfInBounds_toArray, List.set_cons_zero, List.set_cons_succ]
      refine region_take 8 (some 162) (v := ?_) rfl rfl (by kernel_rfl) (by kernel_rfl) (by kernel_rfl) (fun _ _ _ h => h) (by rfl) ?_ (by assumption) ?_
      rotate_left
      · (intro w hSw; (try dsimp only at hSw); go_simp; try with_reducible rfl)
      try simp only [Act.put, List.setIfInBounds_toArray, List.set_cons_zero, List.set_cons_succ]
      refine wpAnyH_ready (rs := [9]) (by kernel_rfl) (by simp) ?_
      refine AllReadyH.cons rfl (fun K hK => ?_) AllReadyH.nil
      go_simp
      refine hK.out _ _ (show _ ∧ _ from ⟨⟨(ap hlt10).trans k5, (ap hbs).trans hcs⟩, ⟨(ap hb10).trans p0, (ap hb10).trans p1⟩, (ap hb10).trans q0, (ap hb10).trans q1, (ap hb10).trans q2, (ap hb10).trans q3, (ap hb10).trans q4, (ap hb10).trans q5, (ap hb10).trans q6, (ap hb10).trans q7, (ap hb10).trans q8⟩) (fun hHeld => ?_)
      clear hK K
      try simp only [Act.put, List.setIfInBounds_toArray, List.set_cons_zero, List.set_cons_succ]
      refine wpAnyH_ready (rs := [10]) (by kernel_rfl) (by simp) ?_
      refine AllReadyH.cons rfl (fun K hK => ?_) AllReadyH.nil
      go_simp
      refine hK.out _ _ (show _ ∧ _ from ⟨⟨(ap hlt10).trans k5, (ap hbs).trans hcs⟩, ⟨(ap hb10).trans p0, (ap hb10).trans p1⟩, (ap hb10).trans q0, (ap hb10).trans q1, (ap hb10).trans q2, (ap hb10).trans q3, (ap hb10).trans q4, (ap hb10).trans q5, (ap hb10).trans q6, (ap hb10).trans q7, (ap hb10).trans q8⟩) (fun hHeld => ?_)
      clear hK K
      try simp only [Act.put, List.setIfInBounds_toArray, List.set_cons_zero, List.set_cons_succ]
      refine wpAnyH_done (by kernel_rfl) ?_ _
      go_wp2_with fail
      go_ret
      exact ⟨rfl, (HB10.out.out.alloc HB10.out.out.size _).drew⟩
end Go.Proofs.YtmdgemdollfnhaaDoor
