/- Contract of layer 6's writer: expr.putBlock, given what putList does of the lists in it. -/
import Derived.Test.YtbhniddgkdldlaaGreatDoorExprP
import Derived.Test.YtbhniddgkdldlaaGreatDoorExprOp
set_option linter.unusedVariables false
set_option linter.unusedSimpArgs false
namespace Go.Proofs.YtbhniddgkdldlaaGreatDoor
open Go.RowKit Trx

theorem wanted_yes' {c : Prop} [Decidable c] {A B : Prop} (h : c) (k : A) : if c then A else B := by rw [if_pos h]; exact k
/-- what putList does of a list. -/
def PutsL (w0 : World) (f : Fo) (A : Option Addr) (c : Nat) : Prop :=
  ∀ (v : Value) (bs : List UInt8) (w : World), OwB w0 w v bs → bs.length + 24 * wt f ≤ 60000000 → Calls Tryz.prog 21 #[v, .slice A (len f) c] w (Wrote w0 w v (bs ++ enc f))
@[reducible] def ndV (n : Nd) (p : Pl) : Value := .agg #[.int .i64 n.op, .int .i64 n.a, .int .i64 n.b, .int .u64 n.v, .int .i64 n.t, .slice p.AL n.L.length p.cL, .slice p.Ab (len n.body) p.cb, .slice p.Ae (len n.els) p.ce, .bool n.he]
theorem Kp.cell' {w w' : World} {v v' x : Value} {b o : Nat} (h : Kp w v w' v') (hv : v.ownBlock ≠ some b) (hc : w.cell? ⟨b, o, none⟩ = some x) : w'.cell? ⟨b, o, none⟩ = some x :=
  (h.cell (World.block_lt_of_cell? _ _ hc) hv).trans hc
theorem Kp.own {w w' : World} {v v' : Value} {b : Nat} (h : Kp w v w' v') (hb : b < w.heap.size) (hv : v.ownBlock ≠ some b) : v'.ownBlock ≠ some b := (h.keep b hb hv).2

set_option maxHeartbeats 8000000 in
set_option maxRecDepth 100000 in
theorem putBlock_any (n : Nd) (p : Pl) (v : Value) (bs : List UInt8) (w0 w : World) (h0 : 0 ≤ n.t) (h2 : n.t ≤ 2) (hB : PutsL w0 n.body p.Ab p.cb) (hE : PutsL w0 n.els p.Ae p.ce) (ho : OwB w0 w v bs) (e2 : (enc n.body).length ≤ 24 * wt n.body) (e3 : (enc n.els).length ≤ 24 * wt n.els) (hl : bs.length + 24 * wt n.body + 24 * wt n.els + 10 ≤ 60000000) :
    Calls Tryz.prog 55 #[v, ndV n p] w (Wrote w0 w v (bs ++ (eRes n.t :: (enc n.body ++ ((if n.he then 5 :: enc n.els else []) ++ [11]))))) := by
  have HB := Lib.hid hB
  have HE := Lib.hid hE
  have HO := Lib.hid ho
  have HR := Lib.hid (fun w => resultByte_any n.t w h0 h2)
  have hnew : v.ownBlock ≠ some w.heap.size := ho.new (Nat.le_refl _)
  have HNew := Lib.hid hnew
  clear hB hE ho hnew
  unfold Wrote
  obtain ⟨x, hx⟩ : ∃ x, x = eRes n.t := ⟨_, rfl⟩
  rw [← hx] at HR ⊢
  clear hx
  obtain ⟨tl, htl⟩ : ∃ tl : List UInt8, tl = ((if n.he then 5 :: enc n.els else []) ++ [11]) := ⟨_, rfl⟩
  rw [← htl]
  have HT := Lib.hid htl
  clear htl
  go_enter Tryz.func55, Tryz.ntmps55
  go_wp2_with fail
  obtain ⟨W0, hW0⟩ : ∃ W0 : World, W0 = w.alloc (.cells #[.int .i64 n.op, .int .i64 n.a, .int .i64 n.b, .int .u64 n.v, .int .i64 n.t, .slice p.AL n.L.length p.cL, .slice p.Ab (len n.body) p.cb, .slice p.Ae (len n.els) p.ce, .bool n.he] 49) := ⟨_, rfl⟩
  have hbW : Below w.heap.size w W0 := by rw [hW0]; exact (Below.refl _ _).alloc (Nat.le_refl _) _
  have hltW : w.heap.size < W0.heap.size := by rw [hW0]; simp
  have hcW : ∀ i, W0.cell? ⟨w.heap.size, i, none⟩ = (#[.int .i64 n.op, .int .i64 n.a, .int .i64 n.b, .int .u64 n.v, .int .i64 n.t, .slice p.AL n.L.length p.cL, .slice p.Ab (len n.body) p.cb, .slice p.Ae (len n.els) p.ce, .bool n.he] : Array Value)[i]? := fun i => by rw [hW0]; exact World.cell?_alloc_at _ _ _ _ rfl
  have c4 : W0.cell? ⟨w.heap.size, 4, none⟩ = some (.int .i64 n.t) := hcW 4
  have c6 : W0.cell? ⟨w.heap.size, 6, none⟩ = some (.slice p.Ab (len n.body) p.cb) := hcW 6
  have c7 : W0.cell? ⟨w.heap.size, 7, none⟩ = some (.slice p.Ae (len n.els) p.ce) := hcW 7
  have c8 : W0.cell? ⟨w.heap.size, 8, none⟩ = some (.bool n.he) := hcW 8
  rw [← hW0]
  clear hW0 hcW
  have HO0 := Lib.hid ((HO.out.later hbW).drewN 1)
  have HK0 := Lib.hid ((Kp.of_below (v := v) hbW).drewN 1)
  refine wp_region_held_drew (S := fun w' => w'.cell? ⟨w.heap.size, 4, none⟩ = some (.int .i64 n.t) ∧ w'.cell? ⟨w.heap.size, 6, none⟩ = some (.slice p.Ab (len n.body) p.cb)) (by kernel_rfl) ⟨c4, c6⟩ (fun hHeld => ?_)
  obtain ⟨W1, hW1⟩ : ∃ W1 : World, W1 = W0.drew := ⟨_, rfl⟩
  have e1 : W0.drewN 1 = W1 := by rw [hW1]; rfl
  rw [e1] at HO0 HK0
  have d4 : W1.cell? ⟨w.heap.size, 4, none⟩ = some (.int .i64 n.t) := by rw [hW1]; exact c4
  have d6 : W1.cell? ⟨w.heap.size, 6, none⟩ = some (.slice p.Ab (len n.body) p.cb) := by rw [hW1]; exact c6
  have d7 : W1.cell? ⟨w.heap.size, 7, none⟩ = some (.slice p.Ae (len n.els) p.ce) := by rw [hW1]; exact c7
  have d8 : W1.cell? ⟨w.heap.size, 8, none⟩ = some (.bool n.he) := by rw [hW1]; exact c8
  have hlt1 : w.heap.size < W1.heap.size := by rw [hW1]; exact hltW
  rw [← hW1] at hHeld ⊢
  clear hW1 e1 c4 c6 c7 c8 hltW hbW
  refine region_take 0 (some 5) (v := ?_) rfl rfl (by kernel_rfl) (by kernel_rfl) (by kernel_rfl) (fun _ _ _ h => h) (by rfl) ?_ (by assumption) ?_
  rotate_left
  · (intro w hSw; (try dsimp only at hSw); go_simp; try with_reducible rfl)
  try simp only [Act.put, List.setIfInBounds_toArray, List.set_cons_zero, List.set_cons_succ]
  refine region_take 1 (some 6) (v := ?_) rfl rfl (by kernel_rfl) (by kernel_rfl) (by kernel_rfl) (fun _ _ _ h => h) (by rfl) ?_ (by assumption) ?_
  rotate_left
  · (intro w hSw; (try dsimp only at hSw); go_simp; try with_reducible rfl)
  try simp only [Act.put, List.setIfInBounds_toArray, List.set_cons_zero, List.set_cons_succ]
  refine region_take 2 (some 7) (v := ?_) rfl rfl (by kernel_rfl) (by kernel_rfl) (by kernel_rfl) (fun _ _ _ h => h) (by rfl) ?_ (by assumption) ?_
  rotate_left
  · (intro w hSw; (try dsimp only at hSw); go_simp; try with_reducible rfl)
  try simp only [Act.put, List.setIfInBounds_toArray, List.set_cons_zero, List.set_cons_succ]
  refine region_take 6 (some 11) (v := ?_) rfl rfl (by kernel_rfl) (by kernel_rfl) (by kernel_rfl) (fun _ _ _ h => h) (by rfl) ?_ (by assumption) ?_
  rotate_left
  · (intro w hSw; (try dsimp only at hSw); go_simp; try with_reducible rfl)
  try simp only [Act.put, List.setIfInBounds_toArray, List.set_cons_zero, List.set_cons_succ]
  refine region_take 7 (some 12) (v := ?_) rfl rfl (by kernel_rfl) (by kernel_rfl) (by kernel_rfl) (fun _ _ _ h => h) (by rfl) ?_ (by assumption) ?_
  rotate_left
  · (intro w hSw; (try dsimp only at hSw); go_simp; try with_reducible rfl)
  try simp only [Act.put, List.setIfInBounds_toArray, List.set_cons_zero, List.set_cons_succ]
  refine wpAnyH_ready (rs := [3]) (by kernel_rfl) (by simp) ?_
  refine AllReadyH.cons rfl (fun K hK => ?_) AllReadyH.nil
  go_simp
  refine (HR.out _).mono ?_
  rintro e w' ⟨rfl, rfl⟩
  go_wp2_with fail
  refine hK.out _ _ ⟨d4, d6⟩ (fun hHeld => ?_)
  clear hK K
  try simp only [Act.put, List.setIfInBounds_toArray, List.set_cons_zero, List.set_cons_succ]
  refine wpAnyH_ready (rs := [4]) (by kernel_rfl) (by simp) ?_
  refine AllReadyH.cons rfl (fun K hK => ?_) AllReadyH.nil
  go_simp
  refine hK.out _ _ ⟨(World.cell?_alloc_lt _ _ _ hlt1).trans d4, (World.cell?_alloc_lt _ _ _ hlt1).trans d6⟩ (fun hHeld => ?_)
  clear hK K
  try simp only [Act.put, List.setIfInBounds_toArray, List.set_cons_zero, List.set_cons_succ]
  refine wpAnyH_ready (rs := [5]) (by kernel_rfl) (by simp) ?_
  refine AllReadyH.cons rfl (fun K hK => ?_) AllReadyH.nil
  refine wanted_yes' (by rfl) ?_
  refine op_bytes (.tmp 5) (.tmp 9) rfl [x] rfl (HO0.out.later ((Below.refl _ _).alloc (Nat.le_refl _) _)) rfl (Sl.byte (b := x.toNat) (World.cell?_alloc_at _ _ _ _ rfl) rfl) rfl (by omega) ?_
  intro v1 W2 ho2 hk2
  have HO2 := Lib.hid ho2
  have f4 := hk2.cell' HNew.out ((World.cell?_alloc_lt _ _ _ hlt1).trans d4)
  have f6 := hk2.cell' HNew.out ((World.cell?_alloc_lt _ _ _ hlt1).trans d6)
  have f7 := hk2.cell' HNew.out ((World.cell?_alloc_lt _ _ _ hlt1).trans d7)
  have f8 := hk2.cell' HNew.out ((World.cell?_alloc_lt _ _ _ hlt1).trans d8)
  have HN2 := Lib.hid (hk2.own (by simp; omega) HNew.out)
  have HK2 := Lib.hid ((HK0.out.alloc _).trans hk2)
  have hlt2 : w.heap.size < W2.heap.size := Nat.lt_of_lt_of_le hlt1 (Nat.le_trans (by simp) hk2.size)
  clear ho2 hk2 d4 d6 d7 d8 hlt1
  refine hK.out _ _ ⟨f4, f6⟩ (fun hHeld => ?_)
  clear hK K
  try simp only [Act.put, List.setIfInBounds_toArray, List.set_cons_zero, List.set_cons_succ]
  refine wpAnyH_ready (rs := [8]) (by kernel_rfl) (by simp) ?_
  refine AllReadyH.cons rfl (fun K hK => ?_) AllReadyH.nil
  go_simp
  refine (HB.out v1 (bs ++ [x]) _ HO2.out (by simp; omega)).mono ?_
  rintro e W3 ⟨v2, rfl, ho3, hk3⟩
  have HO3 := Lib.hid ho3
  have g4 := hk3.cell' HN2.out f4
  have g6 := hk3.cell' HN2.out f6
  have g7 := hk3.cell' HN2.out f7
  have g8 := hk3.cell' HN2.out f8
  have HN3 := Lib.hid (hk3.own hlt2 HN2.out)
  have HK3 := Lib.hid (HK2.out.trans hk3)
  have hlt3 : w.heap.size < W3.heap.size := Nat.lt_of_lt_of_le hlt2 hk3.size
  clear ho3 hk3 f4 f6 f7 f8 hlt2
  go_wp2_with fail
  refine hK.out _ _ ⟨g4, g6⟩ (fun hHeld => ?_)
  clear hK K
  try simp only [Act.put, List.setIfInBounds_toArray, List.set_cons_zero, List.set_cons_succ]
  refine region_take 9 (some 0) (v := ?_) rfl rfl (by kernel_rfl) (by kernel_rfl) (by kernel_rfl) (fun _ _ _ h => h) (by rfl) ?_ (by assumption) ?_
  rotate_left
  · (intro w hSw; (try dsimp only at hSw); go_simp; try with_reducible rfl)
  try simp only [Act.put, List.setIfInBounds_toArray, List.set_cons_zero, List.set_cons_succ]
  refine wpAnyH_done (by kernel_rfl) ?_ _
  clear hHeld
  have hl3 : (bs ++ [x] ++ enc n.body).length ≤ 70000001 := by simp only [List.length_append, List.length_singleton]; omega
  have HL3 := Lib.hid hl3
  clear hl3
  by_cases hh : n.he = true
  · rw [hh] at g8
    go_wp2_with fail
    refine wp_region_held_drew (S := fun w' => w'.cell? ⟨w.heap.size, 7, none⟩ = some (.slice p.Ae (len n.els) p.ce)) (by kernel_rfl) g7 (fun hHeld => ?_)
    have HO3' := Lib.hid (HO3.out.drewN 1)
    have HK3' := Lib.hid (HK3.out.drewN 1)
    obtain ⟨W4, hW4⟩ : ∃ W4 : World, W4 = W3.drew := ⟨_, rfl⟩
    have e1 : W3.drewN 1 = W4 := by rw [hW4]; rfl
    rw [e1] at HO3' HK3'
    have d7 : W4.cell? ⟨w.heap.size, 7, none⟩ = some (.slice p.Ae (len n.els) p.ce) := by rw [hW4]; exact g7
    have hlt4 : w.heap.size < W4.heap.size := by rw [hW4]; exact hlt3
    rw [← hW4] at hHeld ⊢
    clear hW4 e1 g4 g6 g7 g8 hlt3
    refine region_take 0 (some 16) (v := ?_) rfl rfl (by kernel_rfl) (by kernel_rfl) (by kernel_rfl) (fun _ _ _ h => h) (by rfl) ?_ (by assumption) ?_
    rotate_left
    · (intro w hSw; (try dsimp only at hSw); go_simp; try with_reducible rfl)
    try simp only [Act.put, List.setIfInBounds_toArray, List.set_cons_zero, List.set_cons_succ]
    refine region_take 3 (some 19) (v := ?_) rfl rfl (by kernel_rfl) (by kernel_rfl) (by kernel_rfl) (fun _ _ _ h => h) (by rfl) ?_ (by assumption) ?_
    rotate_left
    · (intro w hSw; (try dsimp only at hSw); go_simp; try with_reducible rfl)
    try simp only [Act.put, List.setIfInBounds_toArray, List.set_cons_zero, List.set_cons_succ]
    refine region_take 4 (some 20) (v := ?_) rfl rfl (by kernel_rfl) (by kernel_rfl) (by kernel_rfl) (fun _ _ _ h => h) (by rfl) ?_ (by assumption) ?_
    rotate_left
    · (intro w hSw; (try dsimp only at hSw); go_simp; try with_reducible rfl)
    try simp only [Act.put, List.setIfInBounds_toArray, List.set_cons_zero, List.set_cons_succ]
    refine wpAnyH_ready (rs := [1]) (by kernel_rfl) (by simp) ?_
    refine AllReadyH.cons rfl (fun K hK => ?_) AllReadyH.nil
    go_simp
    refine hK.out _ _ ((World.cell?_alloc_lt _ _ _ hlt4).trans d7) (fun hHeld => ?_)
    clear hK K
    try simp only [Act.put, List.setIfInBounds_toArray, List.set_cons_zero, List.set_cons_succ]
    refine wpAnyH_ready (rs := [2]) (by kernel_rfl) (by simp) ?_
    refine AllReadyH.cons rfl (fun K hK => ?_) AllReadyH.nil
    refine wanted_yes' (by rfl) ?_
    refine op_bytes (.tmp 16) (.tmp 17) rfl [5] rfl (HO3'.out.later ((Below.refl _ _).alloc (Nat.le_refl _) _)) rfl (Sl.byte (b := 5) (World.cell?_alloc_at _ _ _ _ rfl) rfl) rfl (by have := HL3.out; omega) ?_
    intro v3 W5 ho5 hk5
    have HO5 := Lib.hid ho5
    have f7 := hk5.cell' HN3.out ((World.cell?_alloc_lt _ _ _ hlt4).trans d7)
    have HN5 := Lib.hid (hk5.own (by simp; omega) HN3.out)
    have HK5 := Lib.hid ((HK3'.out.alloc _).trans hk5)
    have hlt5 : w.heap.size < W5.heap.size := Nat.lt_of_lt_of_le hlt4 (Nat.le_trans (by simp) hk5.size)
    clear ho5 hk5 d7 hlt4
    refine hK.out _ _ f7 (fun hHeld => ?_)
    clear hK K
    try simp only [Act.put, List.setIfInBounds_toArray, List.set_cons_zero, List.set_cons_succ]
    refine wpAnyH_ready (rs := [5]) (by kernel_rfl) (by simp) ?_
    refine AllReadyH.cons rfl (fun K hK => ?_) AllReadyH.nil
    go_simp
    refine (HE.out v3 (bs ++ [x] ++ enc n.body ++ [5]) _ HO5.out (by simp; omega)).mono ?_
    rintro e W6 ⟨v4, rfl, ho6, hk6⟩
    have HO6 := Lib.hid ho6
    have g7 := hk6.cell' HN5.out f7
    have HK6 := Lib.hid (HK5.out.trans hk6)
    clear ho6 hk6 f7
    go_wp2_with fail
    refine hK.out _ _ g7 (fun hHeld => ?_)
    clear hK K
    try simp only [Act.put, List.setIfInBounds_toArray, List.set_cons_zero, List.set_cons_succ]
    refine region_take 6 (some 0) (v := ?_) rfl rfl (by kernel_rfl) (by kernel_rfl) (by kernel_rfl) (fun _ _ _ h => h) (by rfl) ?_ (by assumption) ?_
    rotate_left
    · (intro w hSw; (try dsimp only at hSw); go_simp; try with_reducible rfl)
    try simp only [Act.put, List.setIfInBounds_toArray, List.set_cons_zero, List.set_cons_succ]
    refine wpAnyH_done (by kernel_rfl) ?_ _
    clear hHeld
    have hl6 : (bs ++ [x] ++ enc n.body ++ [5] ++ enc n.els).length ≤ 70000010 := by simp only [List.length_append, List.length_singleton]; omega
    have HL6 := Lib.hid hl6
    clear hl6
    go_wp2_with (first | (at_builtin; refine wpl_bytes rfl (.tmp 22) (.tmp 23) rfl [11] rfl (HO6.out.later ((Below.refl _ _).alloc (Nat.le_refl _) _)) rfl (Sl.byte (b := 11) (World.cell?_alloc_at _ _ _ _ rfl) rfl) rfl (by have := HL6.out; omega) ?_; intro v7 W7 ho7 hk7; have HO7 := Lib.hid ho7; have HK7 := Lib.hid ((HK6.out.alloc _).trans hk7); clear ho7 hk7))
    go_ret
    refine ⟨_, rfl, ?_, HK7.out⟩
    have := HO7.out
    rw [HT.out, hh, if_pos rfl]
    simpa [List.append_assoc] using this
  · have hh' : n.he = false := by simpa using hh
    rw [hh'] at g8
    clear hh
    go_wp2_with (first | (at_builtin; refine wpl_bytes rfl (.tmp 22) (.tmp 23) rfl [11] rfl (HO3.out.later ((Below.refl _ _).alloc (Nat.le_refl _) _)) rfl (Sl.byte (b := 11) (World.cell?_alloc_at _ _ _ _ rfl) rfl) rfl (by have := HL3.out; omega) ?_; intro v7 W7 ho7 hk7; have HO7 := Lib.hid ho7; have HK7 := Lib.hid ((HK3.out.alloc _).trans hk7); clear ho7 hk7))
    go_ret
    refine ⟨_, rfl, ?_, HK7.out⟩
    have := HO7.out
    rw [HT.out, hh', if_neg (by simp)]
    simpa [List.append_assoc] using this
end Go.Proofs.YtbhniddgkdldlaaGreatDoor
