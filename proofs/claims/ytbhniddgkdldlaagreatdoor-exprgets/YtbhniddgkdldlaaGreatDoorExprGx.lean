/- Layer 6's reader in memory: what it is, what a call leaves of what was there; contracts of expr.spot, fault, peek. -/
import Derived.Test.YtbhniddgkdldlaaGreatDoorExprPq
import Derived.Test.YtbhniddgkdldlaaGreatDoorAsS
import Derived.Test.YtbhniddgkdldlaaGreatDoorLebT
import Derived.Test.YtbhniddgkdldlaaGreatDoorErrs
set_option linter.unusedVariables false
set_option linter.unusedSimpArgs false
namespace Go.Proofs.YtbhniddgkdldlaaGreatDoor.Leb
theorem uOf_drop (bs : List UInt8) (k bits : Nat) : uOf bs k bits = (uOf (bs.drop k) 0 bits).map fun x => (x.1, k + x.2) := by
  unfold uOf
  rw [List.drop_zero]
  split
  · rfl
  · rename_i j hj
    obtain ⟨j1, -, -, -⟩ := lenOf_of_some _ _ _ hj
    have e : (bs.drop k)[0 + j - 1]? = bs[k + j - 1]? := by rw [List.getElem?_drop]; congr 1; omega
    rw [e]
    split
    · rfl
    · simp
theorem sOf_drop (bs : List UInt8) (k bits : Nat) : sOf bs k bits = (sOf (bs.drop k) 0 bits).map fun x => (x.1, k + x.2) := by
  unfold sOf
  rw [List.drop_zero]
  split
  · rfl
  · rename_i j hj
    obtain ⟨j1, -, -, -⟩ := lenOf_of_some _ _ _ hj
    have e : (bs.drop k)[0 + j - 1]? = bs[k + j - 1]? := by rw [List.getElem?_drop]; congr 1; omega
    rw [e]
    split
    · rfl
    · simp
end Go.Proofs.YtbhniddgkdldlaaGreatDoor.Leb
namespace Go.Proofs.YtbhniddgkdldlaaGreatDoor
open Go.RowKit Trx

/-- what was there stays, but for the blocks of M. -/
structure Kx (M : Nat → Prop) (w w' : World) : Prop where
  os : w'.os = w.os
  tape : w'.tape = w.tape
  output : w'.output = w.output
  size : w.heap.size ≤ w'.heap.size
  block : ∀ b, b < w.heap.size → ¬ M b → w'.heap[b]? = w.heap[b]?
section
variable {M M' : Nat → Prop} {w w' w1 w2 : World}
theorem Kx.refl_ : Kx M w w := ⟨rfl, rfl, rfl, Nat.le_refl _, fun _ _ _ => rfl⟩
theorem Kx.trans' (h : Kx M w w1) (h2 : Kx M' w1 w2) (hM : ∀ b, M' b → M b ∨ w.heap.size ≤ b) : Kx M w w2 := by
  refine ⟨h2.os.trans h.os, h2.tape.trans h.tape, h2.output.trans h.output, Nat.le_trans h.size h2.size, fun b hb hm => ?_⟩
  rw [h2.block b (Nat.lt_of_lt_of_le hb h.size) (fun hx => by rcases hM b hx with h3 | h3; exact hm h3; omega), h.block b hb hm]
theorem Kx.trans (h : Kx M w w1) (h2 : Kx M w1 w2) : Kx M w w2 := h.trans' h2 fun _ hb => .inl hb
theorem Kx.of_below (h : Below w.heap.size w w') : Kx M w w' := ⟨h.os, h.tape, h.output, h.size, fun b hb _ => h.block b hb⟩
theorem Kx.alloc (h : Kx M w w1) (o : Obj) : Kx M w (w1.alloc o) := h.trans (.of_below ((Below.refl _ _).alloc (Nat.le_refl _) o))
theorem Kx.drewN (h : Kx M w w1) (n : Nat) : Kx M w (w1.drewN n) := ⟨h.os, h.tape, h.output, h.size, h.block⟩
theorem Kx.setCell (h : Kx M w w1) {p : Addr} (hp : M p.block ∨ w.heap.size ≤ p.block) (u : Value) : Kx M w (w1.setCell p u) := by
  refine ⟨by simpa [World.setCell] using h.os, by simpa [World.setCell] using h.tape, by simpa [World.setCell] using h.output, by simpa [World.setCell] using h.size, fun b hb hm => ?_⟩
  rw [Below.heap_setCell _ _ _ _ (fun e => by subst e; rcases hp with h1 | h1; exact hm h1; omega), h.block b hb hm]
theorem Kx.below {B : Nat} (h : Kx M w w') (hB : B ≤ w.heap.size) (hM : ∀ b, M b → B ≤ b) : Below B w w' :=
  ⟨h.os, h.tape, h.output, h.size, fun b hb => h.block b (by omega) (fun hm => by have := hM b hm; omega)⟩
theorem Kx.cell (h : Kx M w w') {b o : Nat} {x : Value} (hm : ¬ M b) (hc : w.cell? ⟨b, o, none⟩ = some x) : w'.cell? ⟨b, o, none⟩ = some x :=
  (World.cell?_of_block (h.block b (World.block_lt_of_cell? _ _ hc) hm)).trans hc
theorem Kx.frozen (h : Kx M w w') {b o : Nat} (hb : b < w.heap.size) (hm : ¬ M b) : w'.frozen? ⟨b, o, none⟩ = w.frozen? ⟨b, o, none⟩ := World.frozen?_of_block (h.block b hb hm)
theorem Kx.mono (h : Kx M w w') (hM : ∀ b, M b → M' b) : Kx M' w w' := ⟨h.os, h.tape, h.output, h.size, fun b hb hm => h.block b hb (fun hx => hm (hM b hx))⟩
end

/-- a reader in block R: of bs, at p, n were read. -/
structure Rdr (R : Nat) (w : World) (A : Option Addr) (c : Nat) (bs : List UInt8) (p n : Nat) : Prop where
  c0 : w.cell? ⟨R, 0, none⟩ = some (.slice A bs.length c)
  c1 : w.cell? ⟨R, 1, none⟩ = some (.int .i64 p)
  c2 : w.cell? ⟨R, 2, none⟩ = some (.int .i64 n)
  fr : ∀ i, w.frozen? ⟨R, i, none⟩ = false
  sl : Sl w R A (u8s bs)
  hc : bs.length ≤ c
  hm : c ≤ maxLen
  hp : p ≤ bs.length
  base : ∃ w0 : World, w0.heap.size ≤ R ∧ Nam w0 ∧ Below w0.heap.size w0 w
section
variable {R : Nat} {w w' : World} {A : Option Addr} {c : Nat} {bs : List UInt8} {p n : Nat}
theorem Rdr.lt (h : Rdr R w A c bs p n) : R < w.heap.size := World.block_lt_of_cell? _ _ h.c0
theorem Rdr.later (h : Rdr R w A c bs p n) (hb : Below w.heap.size w w') : Rdr R w' A c bs p n :=
  ⟨(hb.cell (p := ⟨R, 0, none⟩) h.lt).trans h.c0, (hb.cell (p := ⟨R, 1, none⟩) h.lt).trans h.c1, (hb.cell (p := ⟨R, 2, none⟩) h.lt).trans h.c2, fun i => (hb.frozen (p := ⟨R, i, none⟩) h.lt).trans (h.fr i), h.sl.below (hb.mono (Nat.le_of_lt h.lt)), h.hc, h.hm, h.hp, h.base.imp fun w0 ⟨h1, h2, h3⟩ => ⟨h1, h2, h3.trans (hb.mono h3.size)⟩⟩
theorem Rdr.drewN (h : Rdr R w A c bs p n) (k : Nat) : Rdr R (w.drewN k) A c bs p n := ⟨h.c0, h.c1, h.c2, h.fr, h.sl, h.hc, h.hm, h.hp, h.base.imp fun w0 ⟨h1, h2, h3⟩ => ⟨h1, h2, ⟨h3.os, h3.tape, h3.output, h3.size, h3.block⟩⟩⟩
theorem Rdr.sl' (h : Rdr R w A c bs p n) : Sl w w.heap.size A (u8s bs) := h.sl.more (Nat.le_of_lt h.lt)
theorem Rdr.setAt (h : Rdr R w A c bs p n) {q : Nat} (hq : q ≤ bs.length) : Rdr R (w.setCell ⟨R, 1, none⟩ (.int .i64 q)) A c bs q n :=
  ⟨(World.cell?_setCell_other _ _ _ _ (by simp)).trans h.c0, World.cell?_setCell_same _ _ _ h.c1, (World.cell?_setCell_other _ _ _ _ (by simp)).trans h.c2, fun i => (World.frozen?_setCell _ _ _ _).trans (h.fr i),
    h.sl.keep fun b o hb => World.cell?_setCell_other _ _ _ _ (by intro e; injection e with e; omega), h.hc, h.hm, hq, h.base.imp fun w0 ⟨h1, h2, h3⟩ => ⟨h1, h2, h3.setCell h1 _⟩⟩
theorem Rdr.setN (h : Rdr R w A c bs p n) (m : Nat) : Rdr R (w.setCell ⟨R, 2, none⟩ (.int .i64 m)) A c bs p m :=
  ⟨(World.cell?_setCell_other _ _ _ _ (by simp)).trans h.c0, (World.cell?_setCell_other _ _ _ _ (by simp)).trans h.c1, World.cell?_setCell_same _ _ _ h.c2, fun i => (World.frozen?_setCell _ _ _ _).trans (h.fr i),
    h.sl.keep fun b o hb => World.cell?_setCell_other _ _ _ _ (by intro e; injection e with e; omega), h.hc, h.hm, h.hp, h.base.imp fun w0 ⟨h1, h2, h3⟩ => ⟨h1, h2, h3.setCell h1 _⟩⟩
theorem Rdr.kx {M : Nat → Prop} (h : Rdr R w A c bs p n) (hk : Kx M w w') (hR : ¬ M R) (hM : ∀ b, M b → R ≤ b) : Rdr R w' A c bs p n :=
  ⟨hk.cell hR h.c0, hk.cell hR h.c1, hk.cell hR h.c2, fun i => (hk.frozen h.lt hR).trans (h.fr i), h.sl.below (hk.below (Nat.le_of_lt h.lt) hM), h.hc, h.hm, h.hp, h.base.imp fun w0 ⟨h1, h2, h3⟩ => ⟨h1, h2, h3.trans (hk.below h3.size (fun b hb => Nat.le_trans h1 (hM b hb)))⟩⟩
theorem Rdr.nam (h : Rdr R w A c bs p n) : Nam w := by
  obtain ⟨w0, -, h2, h3⟩ := h.base
  exact h2.below h3
end
theorem Adv.dropped {bs l' : List UInt8} {p p' m : Nat} (h : Adv (bs.drop p) p l' p' m) (hp : p ≤ bs.length) : l' = bs.drop p' ∧ p + m ≤ p' ∧ p' ≤ bs.length := by
  obtain ⟨k, rfl, rfl, h3, h4⟩ := h
  rw [List.length_drop] at h3
  exact ⟨by rw [List.drop_drop], by omega, by omega⟩

set_option maxRecDepth 100000 in
theorem spot_any (p : Int) (k : Int) (w : World) : Calls Tryz.prog 85 #[.int .i64 p, .int .i64 k] w fun e w' => ∃ v, e = .returned v ∧ SpotIs w' v p k ∧ Below w.heap.size w w' := by
  go_enter Tryz.func85, Tryz.ntmps85
  go_wp2
  go_ret
  exact ⟨_, rfl, SpotIs.new _ _ _ _, (Below.refl _ _).alloc (Nat.le_refl _) _⟩
set_option maxRecDepth 100000 in
theorem fault_any {R : Nat} {w : World} {A : Option Addr} {c : Nat} {bs : List UInt8} {p n : Nat} (k : Int) (h : Rdr R w A c bs p n) :
    Calls Tryz.prog 62 #[.pointer (some ⟨R, 0, none⟩), .int .i64 k] w fun e w' => ∃ v, e = .returned v ∧ SpotIs w' v p k ∧ Below w.heap.size w w' := by
  have c1 := h.c1
  have hlt := h.lt
  clear h
  have HS := Lib.hid (fun w => spot_any p k w)
  go_enter Tryz.func62, Tryz.ntmps62
  go_wp2_with (first | (go_at_call 85; (with_reducible refine (HS.out _).mono ?_); rintro e w1 ⟨v, rfl, hs, hb⟩; have HSp := Lib.hid hs; have HB := Lib.hid hb; clear hs hb))
  go_ret
  exact ⟨_, rfl, HSp.out, HB.out⟩

set_option maxHeartbeats 2000000 in
set_option maxRecDepth 100000 in
theorem peek_ok {R : Nat} {w : World} {A : Option Addr} {c : Nat} {bs : List UInt8} {p n : Nat} (h : Rdr R w A c bs p n) (b : UInt8) (hb : bs[p]? = some b) :
    Calls Tryz.prog 39 #[.pointer (some ⟨R, 0, none⟩)] w fun e w' => e = .returned (.tuple #[.int .u8 b.toNat, .nilIface]) ∧ ∃ nq, w' = w.drewN nq := by
  obtain ⟨hlt, hg⟩ := List.getElem?_eq_some_iff.1 hb
  have c0 := h.c0
  have c1 := h.c1
  have hm := h.hm
  have hcc := h.hc
  unfold maxLen at hm
  obtain ⟨g, o, rfl, hgl, hcell⟩ := h.sl (fun e => by have := congrArg List.length e; simp at this; subst this; simp at hlt)
  have q := hcell p (by simpa using hlt)
  rw [u8s_get bs p hlt, hg] at q
  have t0 : ((p : Int) == (bs.length : Int)) = false := by simp; omega
  have l0 : (p : Int) < bs.length := by omega
  have l1 : (0 : Int) ≤ p := by omega
  have l2 : ((p : Int)).toNat = p := by simp
  have hgw : g < w.heap.size := World.block_lt_of_cell? _ _ q
  clear h hcell hg hb
  go_enter Tryz.func39, Tryz.ntmps39
  go_wp2_with fail
  refine wp_region_held_drew (S := fun w' => w'.cell? ⟨R, 0, none⟩ = some (.slice (some ⟨g, o, none⟩) bs.length c) ∧ w'.cell? ⟨R, 1, none⟩ = some (.int .i64 p)) (by kernel_rfl) ⟨c0, c1⟩ (fun hHeld => ?_)
  refine region_take 0 (some 4) (v := ?_) rfl rfl (by kernel_rfl) (by kernel_rfl) (by kernel_rfl) (fun _ _ _ h => h) (by rfl) ?_ (by assumption) ?_
  rotate_left
  · (intro w hSw; (try dsimp only at hSw); go_simp; try with_reducible rfl)
  try simp only [Act.put, List.setIfInBounds_toArray, List.set_cons_zero, List.set_cons_succ]
  refine region_take 1 (some 5) (v := ?_) rfl rfl (by kernel_rfl) (by kernel_rfl) (by kernel_rfl) (fun _ _ _ h => h) (by rfl) ?_ (by assumption) ?_
  rotate_left
  · (intro w hSw; (try dsimp only at hSw); go_simp; try with_reducible rfl)
  try simp only [Act.put, List.setIfInBounds_toArray, List.set_cons_zero, List.set_cons_succ]
  refine region_take 2 (some 6) (v := ?_) rfl rfl (by kernel_rfl) (by kernel_rfl) (by kernel_rfl) (fun _ _ _ h => h) (by rfl) ?_ (by assumption) ?_
  rotate_left
  · (intro w hSw; (try dsimp only at hSw); go_simp; try with_reducible rfl)
  try simp only [Act.put, List.setIfInBounds_toArray, List.set_cons_zero, List.set_cons_succ]
  refine region_take 3 (some 7) (v := ?_) rfl rfl (by kernel_rfl) (by kernel_rfl) (by kernel_rfl) (fun _ _ _ h => h) (by rfl) ?_ (by assumption) ?_
  rotate_left
  · (intro w hSw; (try dsimp only at hSw); go_simp; try with_reducible rfl)
  try simp only [Act.put, List.setIfInBounds_toArray, List.set_cons_zero, List.set_cons_succ]
  refine region_take 4 (some 8) (v := ?_) rfl rfl (by kernel_rfl) (by kernel_rfl) (by kernel_rfl) (fun _ _ _ h => h) (by rfl) ?_ (by assumption) ?_
  rotate_left
  · (intro w hSw; (try dsimp only at hSw); go_simp; try with_reducible rfl)
  try simp only [Act.put, List.setIfInBounds_toArray, List.set_cons_zero, List.set_cons_succ]
  refine region_take 5 (some 9) (v := ?_) rfl rfl (by kernel_rfl) (by kernel_rfl) (by kernel_rfl) (fun _ _ _ h => h) (by rfl) ?_ (by assumption) ?_
  rotate_left
  · (intro w hSw; (try dsimp only at hSw); go_simp; try with_reducible rfl)
  try simp only [Act.put, List.setIfInBounds_toArray, List.set_cons_zero, List.set_cons_succ]
  refine region_take 6 (some 10) (v := ?_) rfl rfl (by kernel_rfl) (by kernel_rfl) (by kernel_rfl) (fun _ _ _ h => h) (by rfl) ?_ (by assumption) ?_
  rotate_left
  · (intro w hSw; (try dsimp only at hSw); go_simp; try with_reducible rfl)
  try simp only [Act.put, List.setIfInBounds_toArray, List.set_cons_zero, List.set_cons_succ]
  refine region_take 7 (some 11) (v := ?_) rfl rfl (by kernel_rfl) (by kernel_rfl) (by kernel_rfl) (fun _ _ _ h => h) (by rfl) ?_ (by assumption) ?_
  rotate_left
  · (intro w hSw; (try dsimp only at hSw); go_simp; try with_reducible rfl)
  try simp only [Act.put, List.setIfInBounds_toArray, List.set_cons_zero, List.set_cons_succ]
  refine region_take 8 (some 12) (v := ?_) rfl rfl (by kernel_rfl) (by kernel_rfl) (by kernel_rfl) (fun _ _ _ h => h) (by rfl) ?_ (by assumption) ?_
  rotate_left
  · (intro w hSw; (try dsimp only at hSw); go_simp; try with_reducible rfl)
  try simp only [Act.put, List.setIfInBounds_toArray, List.set_cons_zero, List.set_cons_succ]
  refine region_take 9 (some 13) (v := ?_) rfl rfl (by kernel_rfl) (by kernel_rfl) (by kernel_rfl) (fun _ _ _ h => h) (by rfl) ?_ (by assumption) ?_
  rotate_left
  · (intro w hSw; (try dsimp only at hSw); go_simp; try with_reducible rfl)
  try simp only [Act.put, List.setIfInBounds_toArray, List.set_cons_zero, List.set_cons_succ]
  refine wpAnyH_done (by kernel_rfl) ?_ _
  clear hHeld
  go_wp2_with fail
  refine wp_region_held_drew (S := fun w' => w'.cell? ⟨R, 0, none⟩ = some (.slice (some ⟨g, o, none⟩) bs.length c) ∧ w'.cell? ⟨R, 1, none⟩ = some (.int .i64 p) ∧ w'.cell? ⟨g, o + p, none⟩ = some (.int .u8 b.toNat)) (by kernel_rfl) ⟨c0, c1, q⟩ (fun hHeld => ?_)
  refine region_take 0 (some 16) (v := ?_) rfl rfl (by kernel_rfl) (by kernel_rfl) (by kernel_rfl) (fun _ _ _ h => h) (by rfl) ?_ (by assumption) ?_
  rotate_left
  · (intro w hSw; (try dsimp only at hSw); go_simp; try with_reducible rfl)
  try simp only [Act.put, List.setIfInBounds_toArray, List.set_cons_zero, List.set_cons_succ]
  refine region_take 1 (some 17) (v := ?_) rfl rfl (by kernel_rfl) (by kernel_rfl) (by kernel_rfl) (fun _ _ _ h => h) (by rfl) ?_ (by assumption) ?_
  rotate_left
  · (intro w hSw; (try dsimp only at hSw); go_simp; try with_reducible rfl)
  try simp only [Act.put, List.setIfInBounds_toArray, List.set_cons_zero, List.set_cons_succ]
  refine region_take 2 (some 18) (v := ?_) rfl rfl (by kernel_rfl) (by kernel_rfl) (by kernel_rfl) (fun _ _ _ h => h) (by rfl) ?_ (by assumption) ?_
  rotate_left
  · (intro w hSw; (try dsimp only at hSw); go_simp; try with_reducible rfl)
  try simp only [Act.put, List.setIfInBounds_toArray, List.set_cons_zero, List.set_cons_succ]
  refine region_take 3 (some 19) (v := ?_) rfl rfl (by kernel_rfl) (by kernel_rfl) (by kernel_rfl) (fun _ _ _ h => h) (by rfl) ?_ (by assumption) ?_
  rotate_left
  · (intro w hSw; (try dsimp only at hSw); go_simp; try with_reducible rfl)
  try simp only [Act.put, List.setIfInBounds_toArray, List.set_cons_zero, List.set_cons_succ]
  refine region_take 4 (some 20) (v := ?_) rfl rfl (by kernel_rfl) (by kernel_rfl) (by kernel_rfl) (fun _ _ _ h => h) (by rfl) ?_ (by assumption) ?_
  rotate_left
  · (intro w hSw; (try dsimp only at hSw); go_simp; try with_reducible rfl)
  try simp only [Act.put, List.setIfInBounds_toArray, List.set_cons_zero, List.set_cons_succ]
  refine region_take 5 (some 21) (v := ?_) rfl rfl (by kernel_rfl) (by kernel_rfl) (by kernel_rfl) (fun _ _ _ h => h) (by rfl) ?_ (by assumption) ?_
  rotate_left
  · (intro w hSw; (try dsimp only at hSw); go_simp; try with_reducible rfl)
  try simp only [Act.put, List.setIfInBounds_toArray, List.set_cons_zero, List.set_cons_succ]
  refine region_take 6 (some 22) (v := ?_) rfl rfl (by kernel_rfl) (by kernel_rfl) (by kernel_rfl) (fun _ _ _ h => h) (by rfl) ?_ (by assumption) ?_
  rotate_left
  · (intro w hSw; (try dsimp only at hSw); go_simp; try with_reducible rfl)
  try simp only [Act.put, List.setIfInBounds_toArray, List.set_cons_zero, List.set_cons_succ]
  refine region_take 7 (some 23) (v := ?_) rfl rfl (by kernel_rfl) (by kernel_rfl) (by kernel_rfl) (fun _ _ _ h => h) (by rfl) ?_ (by assumption) ?_
  rotate_left
  · (intro w hSw; (try dsimp only at hSw); go_simp; try with_reducible rfl)
  try simp only [Act.put, List.setIfInBounds_toArray, List.set_cons_zero, List.set_cons_succ]
  refine region_take 8 (some 24) (v := ?_) rfl rfl (by kernel_rfl) (by kernel_rfl) (by kernel_rfl) (fun _ _ _ h => h) (by rfl) ?_ (by assumption) ?_
  rotate_left
  · (intro w hSw; (try dsimp only at hSw); go_simp; try with_reducible rfl)
  try simp only [Act.put, List.setIfInBounds_toArray, List.set_cons_zero, List.set_cons_succ]
  refine region_take 9 (some 25) (v := ?_) rfl rfl (by kernel_rfl) (by kernel_rfl) (by kernel_rfl) (fun _ _ _ h => h) (by rfl) ?_ (by assumption) ?_
  rotate_left
  · (intro w hSw; (try dsimp only at hSw); go_simp; try with_reducible rfl)
  try simp only [Act.put, List.setIfInBounds_toArray, List.set_cons_zero, List.set_cons_succ]
  refine region_take 10 (some 2) (v := ?_) rfl rfl (by kernel_rfl) (by kernel_rfl) (by kernel_rfl) (fun _ _ _ h => h) (by rfl) ?_ (by assumption) ?_
  rotate_left
  · (intro w hSw; (try dsimp only at hSw); go_simp; try with_reducible rfl)
  try simp only [Act.put, List.setIfInBounds_toArray, List.set_cons_zero, List.set_cons_succ]
  refine region_take 11 (some 3) (v := ?_) rfl rfl (by kernel_rfl) (by kernel_rfl) (by kernel_rfl) (fun _ _ _ h => h) (by rfl) ?_ (by assumption) ?_
  rotate_left
  · (intro w hSw; (try dsimp only at hSw); go_simp; try with_reducible rfl)
  try simp only [Act.put, List.setIfInBounds_toArray, List.set_cons_zero, List.set_cons_succ]
  refine wpAnyH_done (by kernel_rfl) ?_ _
  go_wp2_with fail
  go_ret2
  exact ⟨rfl, 2, rfl⟩
set_option maxHeartbeats 2000000 in
set_option maxRecDepth 100000 in
theorem peek_end {R : Nat} {w : World} {A : Option Addr} {c : Nat} {bs : List UInt8} {n : Nat} (h : Rdr R w A c bs bs.length n) :
    Calls Tryz.prog 39 #[.pointer (some ⟨R, 0, none⟩)] w fun e w' => ∃ v, e = .returned (.tuple #[.int .u8 0, v]) ∧ SpotIs w' v bs.length 2 ∧ Below w.heap.size w w' := by
  have c0 := h.c0
  have c1 := h.c1
  have t0 : ((bs.length : Int) == (bs.length : Int)) = true := by simp
  have HF := Lib.hid (fault_any 2 (h.drewN 1))
  clear h
  go_enter Tryz.func39, Tryz.ntmps39
  go_wp2_with fail
  refine wp_region_held_drew (S := fun w' => w'.cell? ⟨R, 0, none⟩ = some (.slice A bs.length c) ∧ w'.cell? ⟨R, 1, none⟩ = some (.int .i64 bs.length)) (by kernel_rfl) ⟨c0, c1⟩ (fun hHeld => ?_)
  refine region_take 0 (some 4) (v := ?_) rfl rfl (by kernel_rfl) (by kernel_rfl) (by kernel_rfl) (fun _ _ _ h => h) (by rfl) ?_ (by assumption) ?_
  rotate_left
  · (intro w hSw; (try dsimp only at hSw); go_simp; try with_reducible rfl)
  try simp only [Act.put, List.setIfInBounds_toArray, List.set_cons_zero, List.set_cons_succ]
  refine region_take 1 (some 5) (v := ?_) rfl rfl (by kernel_rfl) (by kernel_rfl) (by kernel_rfl) (fun _ _ _ h => h) (by rfl) ?_ (by assumption) ?_
  rotate_left
  · (intro w hSw; (try dsimp only at hSw); go_simp; try with_reducible rfl)
  try simp only [Act.put, List.setIfInBounds_toArray, List.set_cons_zero, List.set_cons_succ]
  refine region_take 2 (some 6) (v := ?_) rfl rfl (by kernel_rfl) (by kernel_rfl) (by kernel_rfl) (fun _ _ _ h => h) (by rfl) ?_ (by assumption) ?_
  rotate_left
  · (intro w hSw; (try dsimp only at hSw); go_simp; try with_reducible rfl)
  try simp only [Act.put, List.setIfInBounds_toArray, List.set_cons_zero, List.set_cons_succ]
  refine region_take 3 (some 7) (v := ?_) rfl rfl (by kernel_rfl) (by kernel_rfl) (by kernel_rfl) (fun _ _ _ h => h) (by rfl) ?_ (by assumption) ?_
  rotate_left
  · (intro w hSw; (try dsimp only at hSw); go_simp; try with_reducible rfl)
  try simp only [Act.put, List.setIfInBounds_toArray, List.set_cons_zero, List.set_cons_succ]
  refine region_take 4 (some 8) (v := ?_) rfl rfl (by kernel_rfl) (by kernel_rfl) (by kernel_rfl) (fun _ _ _ h => h) (by rfl) ?_ (by assumption) ?_
  rotate_left
  · (intro w hSw; (try dsimp only at hSw); go_simp; try with_reducible rfl)
  try simp only [Act.put, List.setIfInBounds_toArray, List.set_cons_zero, List.set_cons_succ]
  refine region_take 5 (some 9) (v := ?_) rfl rfl (by kernel_rfl) (by kernel_rfl) (by kernel_rfl) (fun _ _ _ h => h) (by rfl) ?_ (by assumption) ?_
  rotate_left
  · (intro w hSw; (try dsimp only at hSw); go_simp; try with_reducible rfl)
  try simp only [Act.put, List.setIfInBounds_toArray, List.set_cons_zero, List.set_cons_succ]
  refine region_take 6 (some 10) (v := ?_) rfl rfl (by kernel_rfl) (by kernel_rfl) (by kernel_rfl) (fun _ _ _ h => h) (by rfl) ?_ (by assumption) ?_
  rotate_left
  · (intro w hSw; (try dsimp only at hSw); go_simp; try with_reducible rfl)
  try simp only [Act.put, List.setIfInBounds_toArray, List.set_cons_zero, List.set_cons_succ]
  refine region_take 7 (some 11) (v := ?_) rfl rfl (by kernel_rfl) (by kernel_rfl) (by kernel_rfl) (fun _ _ _ h => h) (by rfl) ?_ (by assumption) ?_
  rotate_left
  · (intro w hSw; (try dsimp only at hSw); go_simp; try with_reducible rfl)
  try simp only [Act.put, List.setIfInBounds_toArray, List.set_cons_zero, List.set_cons_succ]
  refine region_take 8 (some 12) (v := ?_) rfl rfl (by kernel_rfl) (by kernel_rfl) (by kernel_rfl) (fun _ _ _ h => h) (by rfl) ?_ (by assumption) ?_
  rotate_left
  · (intro w hSw; (try dsimp only at hSw); go_simp; try with_reducible rfl)
  try simp only [Act.put, List.setIfInBounds_toArray, List.set_cons_zero, List.set_cons_succ]
  refine region_take 9 (some 13) (v := ?_) rfl rfl (by kernel_rfl) (by kernel_rfl) (by kernel_rfl) (fun _ _ _ h => h) (by rfl) ?_ (by assumption) ?_
  rotate_left
  · (intro w hSw; (try dsimp only at hSw); go_simp; try with_reducible rfl)
  try simp only [Act.put, List.setIfInBounds_toArray, List.set_cons_zero, List.set_cons_succ]
  refine wpAnyH_done (by kernel_rfl) ?_ _
  clear hHeld
  have e1 : w.drewN 1 = w.drew := rfl
  rw [e1] at HF
  go_wp2_with (first | (go_at_call 62; (with_reducible refine HF.out.mono ?_); rintro e w1 ⟨v, rfl, hs, hb⟩; have HSp := Lib.hid hs; have HB := Lib.hid hb; clear hs hb))
  go_ret2
  exact ⟨_, rfl, HSp.out, ((Below.refl _ _).drew).trans HB.out⟩
end Go.Proofs.YtbhniddgkdldlaaGreatDoor

/- Layer 6's reader: contracts of expr.reader's number, constant, zero, result. -/
namespace Go.Proofs.YtbhniddgkdldlaaGreatDoor
open Go.RowKit Trx

theorem drop_at {bs : List UInt8} {p : Nat} {b : UInt8} (h : bs[p]? = some b) : bs.drop p = b :: bs.drop (p + 1) := by
  obtain ⟨hl, hg⟩ := List.getElem?_eq_some_iff.1 h
  rw [List.drop_eq_getElem_cons hl, hg]
theorem at_end {bs : List UInt8} {p : Nat} (h : bs[p]? = none) (hp : p ≤ bs.length) : p = bs.length ∧ bs.drop p = [] := by
  have := List.getElem?_eq_none_iff.1 h
  exact ⟨by omega, List.drop_eq_nil_of_le this⟩
theorem must_cons (x b : UInt8) (r : List UInt8) (p : Nat) : rdMust x (b :: r) p = if b = x then .ok ((), r, p + 1) else .error (2, p) := rfl
theorem kind_cons (b : UInt8) (r : List UInt8) (p : Nat) : rdKind (b :: r) p = if b = 64 then .ok (0, r, p + 1) else if b = 127 then .ok (1, r, p + 1) else if b = 126 then .ok (2, r, p + 1) else if b = 125 ∨ b = 124 then .error (3, p) else .error (2, p) := rfl
theorem u8_ne {b : UInt8} {k : Nat} {x : UInt8} (h : b ≠ x) (hk : x.toNat = k) : ((b.toNat : Int) == (k : Int)) = false := by
  have : b.toNat ≠ k := fun e => h (UInt8.toNat_inj.1 (by rw [e, hk]))
  simp; omega
theorem ret_two {a b c d : Value} (h : a = c) (h2 : b = d) : Ending.returned (.tuple #[a, b]) = .returned (.tuple #[c, d]) := by rw [h, h2]
/-- one block alone. -/
@[reducible] def Only (R : Nat) : Nat → Prop := fun b => b = R
section
variable {R : Nat} {w : World} {A : Option Addr} {c : Nat} {bs : List UInt8} {p n : Nat}
theorem Rdr.w1 (h : Rdr R w A c bs p n) : Rdr R w.drew A c bs p n := h.drewN 1
theorem Kx.w1 {M : Nat → Prop} : Kx M w w.drew := Kx.refl_.drewN 1

set_option maxHeartbeats 2000000 in
set_option maxRecDepth 100000 in
theorem number_ok (h : Rdr R w A c bs p n) (x : Int) (l' : List UInt8) (p' : Nat) (hr : rdInt (bs.drop p) p = .ok (x, l', p')) :
    Calls Tryz.prog 65 #[.pointer (some ⟨R, 0, none⟩)] w fun e w' => e = .returned (.tuple #[.int .i64 x, .nilIface]) ∧ Rdr R w' A c bs p' n ∧ Kx (Only R) w w' := by
  obtain ⟨hx, hadv⟩ := int_got hr
  obtain ⟨-, -, hp'⟩ := Adv.dropped hadv h.hp
  have hx' := (num32_iff _).1 hx
  have hU : Leb.uOf bs p 32 = some (x.toNat, p') := by
    rw [Leb.uOf_drop]
    unfold rdInt at hr
    split at hr
    · cases hr
    · rename_i u k hu
      injection hr with hr
      simp only [Prod.mk.injEq] at hr
      obtain ⟨rfl, -, rfl⟩ := hr
      rw [hu]; simp
  have c0 := h.c0
  have c1 := h.c1
  have x0 := hx'.1
  have x1 := hx'.2
  have HC := Lib.hid (U_int (w := w.drew) (at_ := p) (bits := 32) (some (x.toNat, p')) h.w1.sl' (Nat.le_refl _) rfl h.hc h.hm (by decide) (by decide) (by omega) (by have := h.hp; omega) (by simpa using hU))
  unfold luV at HC
  dsimp only at HC
  rw [Int.toNat_of_nonneg x0] at HC
  have hf := h.fr 1
  have HR := Lib.hid h
  have HP := Lib.hid hp'
  have hlt := h.lt
  clear h hx hadv hU hx' hr hp'
  go_enter Tryz.func65, Tryz.ntmps65
  go_wp2_with fail
  refine wp_region_held_drew (S := fun w' => w'.cell? ⟨R, 0, none⟩ = some (.slice A bs.length c) ∧ w'.cell? ⟨R, 1, none⟩ = some (.int .i64 p)) (by kernel_rfl) ⟨c0, c1⟩ (fun hHeld => ?_)
  refine region_take 0 (some 8) (v := ?_) rfl rfl (by kernel_rfl) (by kernel_rfl) (by kernel_rfl) (fun _ _ _ h => h) (by rfl) ?_ (by assumption) ?_
  rotate_left
  · (intro w hSw; (try dsimp only at hSw); go_simp; try with_reducible rfl)
  try simp only [Act.put, List.setIfInBounds_toArray, List.set_cons_zero, List.set_cons_succ]
  refine region_take 1 (some 9) (v := ?_) rfl rfl (by kernel_rfl) (by kernel_rfl) (by kernel_rfl) (fun _ _ _ h => h) (by rfl) ?_ (by assumption) ?_
  rotate_left
  · (intro w hSw; (try dsimp only at hSw); go_simp; try with_reducible rfl)
  try simp only [Act.put, List.setIfInBounds_toArray, List.set_cons_zero, List.set_cons_succ]
  refine region_take 2 (some 10) (v := ?_) rfl rfl (by kernel_rfl) (by kernel_rfl) (by kernel_rfl) (fun _ _ _ h => h) (by rfl) ?_ (by assumption) ?_
  rotate_left
  · (intro w hSw; (try dsimp only at hSw); go_simp; try with_reducible rfl)
  try simp only [Act.put, List.setIfInBounds_toArray, List.set_cons_zero, List.set_cons_succ]
  refine region_take 3 (some 11) (v := ?_) rfl rfl (by kernel_rfl) (by kernel_rfl) (by kernel_rfl) (fun _ _ _ h => h) (by rfl) ?_ (by assumption) ?_
  rotate_left
  · (intro w hSw; (try dsimp only at hSw); go_simp; try with_reducible rfl)
  try simp only [Act.put, List.setIfInBounds_toArray, List.set_cons_zero, List.set_cons_succ]
  refine region_take 4 (some 12) (v := ?_) rfl rfl (by kernel_rfl) (by kernel_rfl) (by kernel_rfl) (fun _ _ _ h => h) (by rfl) ?_ (by assumption) ?_
  rotate_left
  · (intro w hSw; (try dsimp only at hSw); go_simp; try with_reducible rfl)
  try simp only [Act.put, List.setIfInBounds_toArray, List.set_cons_zero, List.set_cons_succ]
  refine region_take 5 (some 13) (v := ?_) rfl rfl (by kernel_rfl) (by kernel_rfl) (by kernel_rfl) (fun _ _ _ h => h) (by rfl) ?_ (by assumption) ?_
  rotate_left
  · (intro w hSw; (try dsimp only at hSw); go_simp; try with_reducible rfl)
  try simp only [Act.put, List.setIfInBounds_toArray, List.set_cons_zero, List.set_cons_succ]
  refine region_take 6 (some 14) (v := ?_) rfl rfl (by kernel_rfl) (by kernel_rfl) (by kernel_rfl) (fun _ _ _ h => h) (by rfl) ?_ (by assumption) ?_
  rotate_left
  · (intro w hSw; (try dsimp only at hSw); go_simp; try with_reducible rfl)
  try simp only [Act.put, List.setIfInBounds_toArray, List.set_cons_zero, List.set_cons_succ]
  refine region_take 7 (some 15) (v := ?_) rfl rfl (by kernel_rfl) (by kernel_rfl) (by kernel_rfl) (fun _ _ _ h => h) (by rfl) ?_ (by assumption) ?_
  rotate_left
  · (intro w hSw; (try dsimp only at hSw); go_simp; try with_reducible rfl)
  try simp only [Act.put, List.setIfInBounds_toArray, List.set_cons_zero, List.set_cons_succ]
  refine wpAnyH_ready (rs := [8]) (by kernel_rfl) (by simp) ?_
  refine AllReadyH.cons rfl (fun K hK => ?_) AllReadyH.nil
  go_simp
  refine HC.out.mono ?_
  rintro e w1 ⟨rfl, nq, hw1⟩
  have HR1 : Hid (Rdr R w1 A c bs p n) := Lib.hid (by rw [hw1]; exact HR.out.w1.drewN nq)
  have HK1 : Hid (Kx (Only R) w w1) := Lib.hid (by rw [hw1]; exact Kx.w1.drewN nq)
  have d0 := HR1.out.c0
  have d1 := HR1.out.c1
  have df := HR1.out.fr 1
  have hlt1 := HR1.out.lt
  clear hw1 hHeld c0 c1 hf hlt
  go_wp2_with fail
  refine hK.out _ _ ⟨d0, d1⟩ (fun hHeld => ?_)
  clear hK K
  try simp only [Act.put, List.setIfInBounds_toArray, List.set_cons_zero, List.set_cons_succ]
  refine region_take 9 (some 7) (v := ?_) rfl rfl (by kernel_rfl) (by kernel_rfl) (by kernel_rfl) (fun _ _ _ h => h) (by rfl) ?_ (by assumption) ?_
  rotate_left
  · (intro w hSw; (try dsimp only at hSw); go_simp; try with_reducible rfl)
  try simp only [Act.put, List.setIfInBounds_toArray, List.set_cons_zero, List.set_cons_succ]
  refine region_take 10 (some 17) (v := ?_) rfl rfl (by kernel_rfl) (by kernel_rfl) (by kernel_rfl) (fun _ _ _ h => h) (by rfl) ?_ (by assumption) ?_
  rotate_left
  · (intro w hSw; (try dsimp only at hSw); go_simp; try with_reducible rfl)
  try simp only [Act.put, List.setIfInBounds_toArray, List.set_cons_zero, List.set_cons_succ]
  refine region_take 11 (some 18) (v := ?_) rfl rfl (by kernel_rfl) (by kernel_rfl) (by kernel_rfl) (fun _ _ _ h => h) (by rfl) ?_ (by assumption) ?_
  rotate_left
  · (intro w hSw; (try dsimp only at hSw); go_simp; try with_reducible rfl)
  try simp only [Act.put, List.setIfInBounds_toArray, List.set_cons_zero, List.set_cons_succ]
  refine region_take 12 (some 19) (v := ?_) rfl rfl (by kernel_rfl) (by kernel_rfl) (by kernel_rfl) (fun _ _ _ h => h) (by rfl) ?_ (by assumption) ?_
  rotate_left
  · (intro w hSw; (try dsimp only at hSw); go_simp; try with_reducible rfl)
  try simp only [Act.put, List.setIfInBounds_toArray, List.set_cons_zero, List.set_cons_succ]
  refine region_take 13 (some 4) (v := ?_) rfl rfl (by kernel_rfl) (by kernel_rfl) (by kernel_rfl) (fun _ _ _ h => h) (by rfl) ?_ (by assumption) ?_
  rotate_left
  · (intro w hSw; (try dsimp only at hSw); go_simp; try with_reducible rfl)
  try simp only [Act.put, List.setIfInBounds_toArray, List.set_cons_zero, List.set_cons_succ]
  refine region_take 14 (some 5) (v := ?_) rfl rfl (by kernel_rfl) (by kernel_rfl) (by kernel_rfl) (fun _ _ _ h => h) (by rfl) ?_ (by assumption) ?_
  rotate_left
  · (intro w hSw; (try dsimp only at hSw); go_simp; try with_reducible rfl)
  try simp only [Act.put, List.setIfInBounds_toArray, List.set_cons_zero, List.set_cons_succ]
  refine region_take 15 (some 6) (v := ?_) rfl rfl (by kernel_rfl) (by kernel_rfl) (by kernel_rfl) (fun _ _ _ h => h) (by rfl) ?_ (by assumption) ?_
  rotate_left
  · (intro w hSw; (try dsimp only at hSw); go_simp; try with_reducible rfl)
  try simp only [Act.put, List.setIfInBounds_toArray, List.set_cons_zero, List.set_cons_succ]
  refine wpAnyH_done (by kernel_rfl) ?_ _
  clear hHeld
  go_wp2_with fail
  go_ret2
  exact ⟨ret_two (by congr 1) rfl, HR1.out.setAt HP.out, HK1.out.setCell (.inl rfl) _⟩
set_option maxHeartbeats 2000000 in
set_option maxRecDepth 100000 in
theorem number_err (h : Rdr R w A c bs p n) (er : Nat × Nat) (hr : rdInt (bs.drop p) p = .error er) :
    Calls Tryz.prog 65 #[.pointer (some ⟨R, 0, none⟩)] w fun e w' => ∃ v, e = .returned (.tuple #[.int .i64 0, v]) ∧ SpotIs w' v er.2 er.1 ∧ Kx (Only R) w w' := by
  have hU : Leb.uOf bs p 32 = none ∧ er = (2, p) := by
    rw [Leb.uOf_drop]
    unfold rdInt at hr
    split at hr
    · rename_i hu
      injection hr with hr
      rw [hu]
      exact ⟨rfl, hr.symm⟩
    · cases hr
  obtain ⟨hU, rfl⟩ := hU
  have c0 := h.c0
  have c1 := h.c1
  have HC := Lib.hid (U_int (w := w.drew) (at_ := p) (bits := 32) none h.w1.sl' (Nat.le_refl _) rfl h.hc h.hm (by decide) (by decide) (by omega) (by have := h.hp; omega) (by simpa using hU))
  unfold luV at HC
  have HR := Lib.hid h
  clear h hU hr
  go_enter Tryz.func65, Tryz.ntmps65
  go_wp2_with fail
  refine wp_region_held_drew (S := fun w' => w'.cell? ⟨R, 0, none⟩ = some (.slice A bs.length c) ∧ w'.cell? ⟨R, 1, none⟩ = some (.int .i64 p)) (by kernel_rfl) ⟨c0, c1⟩ (fun hHeld => ?_)
  refine region_take 0 (some 8) (v := ?_) rfl rfl (by kernel_rfl) (by kernel_rfl) (by kernel_rfl) (fun _ _ _ h => h) (by rfl) ?_ (by assumption) ?_
  rotate_left
  · (intro w hSw; (try dsimp only at hSw); go_simp; try with_reducible rfl)
  try simp only [Act.put, List.setIfInBounds_toArray, List.set_cons_zero, List.set_cons_succ]
  refine region_take 1 (some 9) (v := ?_) rfl rfl (by kernel_rfl) (by kernel_rfl) (by kernel_rfl) (fun _ _ _ h => h) (by rfl) ?_ (by assumption) ?_
  rotate_left
  · (intro w hSw; (try dsimp only at hSw); go_simp; try with_reducible rfl)
  try simp only [Act.put, List.setIfInBounds_toArray, List.set_cons_zero, List.set_cons_succ]
  refine region_take 2 (some 10) (v := ?_) rfl rfl (by kernel_rfl) (by kernel_rfl) (by kernel_rfl) (fun _ _ _ h => h) (by rfl) ?_ (by assumption) ?_
  rotate_left
  · (intro w hSw; (try dsimp only at hSw); go_simp; try with_reducible rfl)
  try simp only [Act.put, List.setIfInBounds_toArray, List.set_cons_zero, List.set_cons_succ]
  refine region_take 3 (some 11) (v := ?_) rfl rfl (by kernel_rfl) (by kernel_rfl) (by kernel_rfl) (fun _ _ _ h => h) (by rfl) ?_ (by assumption) ?_
  rotate_left
  · (intro w hSw; (try dsimp only at hSw); go_simp; try with_reducible rfl)
  try simp only [Act.put, List.setIfInBounds_toArray, List.set_cons_zero, List.set_cons_succ]
  refine region_take 4 (some 12) (v := ?_) rfl rfl (by kernel_rfl) (by kernel_rfl) (by kernel_rfl) (fun _ _ _ h => h) (by rfl) ?_ (by assumption) ?_
  rotate_left
  · (intro w hSw; (try dsimp only at hSw); go_simp; try with_reducible rfl)
  try simp only [Act.put, List.setIfInBounds_toArray, List.set_cons_zero, List.set_cons_succ]
  refine region_take 5 (some 13) (v := ?_) rfl rfl (by kernel_rfl) (by kernel_rfl) (by kernel_rfl) (fun _ _ _ h => h) (by rfl) ?_ (by assumption) ?_
  rotate_left
  · (intro w hSw; (try dsimp only at hSw); go_simp; try with_reducible rfl)
  try simp only [Act.put, List.setIfInBounds_toArray, List.set_cons_zero, List.set_cons_succ]
  refine region_take 6 (some 14) (v := ?_) rfl rfl (by kernel_rfl) (by kernel_rfl) (by kernel_rfl) (fun _ _ _ h => h) (by rfl) ?_ (by assumption) ?_
  rotate_left
  · (intro w hSw; (try dsimp only at hSw); go_simp; try with_reducible rfl)
  try simp only [Act.put, List.setIfInBounds_toArray, List.set_cons_zero, List.set_cons_succ]
  refine region_take 7 (some 15) (v := ?_) rfl rfl (by kernel_rfl) (by kernel_rfl) (by kernel_rfl) (fun _ _ _ h => h) (by rfl) ?_ (by assumption) ?_
  rotate_left
  · (intro w hSw; (try dsimp only at hSw); go_simp; try with_reducible rfl)
  try simp only [Act.put, List.setIfInBounds_toArray, List.set_cons_zero, List.set_cons_succ]
  refine wpAnyH_ready (rs := [8]) (by kernel_rfl) (by simp) ?_
  refine AllReadyH.cons rfl (fun K hK => ?_) AllReadyH.nil
  go_simp
  refine HC.out.mono ?_
  rintro e w1 ⟨rfl, nq, hw1⟩
  have HR1 : Hid (Rdr R w1 A c bs p n) := Lib.hid (by rw [hw1]; exact HR.out.w1.drewN nq)
  have HK1 : Hid (Kx (Only R) w w1) := Lib.hid (by rw [hw1]; exact Kx.w1.drewN nq)
  have d0 := HR1.out.c0
  have d1 := HR1.out.c1
  clear hw1 hHeld c0 c1
  go_wp2_with fail
  refine hK.out _ _ ⟨d0, d1⟩ (fun hHeld => ?_)
  clear hK K
  try simp only [Act.put, List.setIfInBounds_toArray, List.set_cons_zero, List.set_cons_succ]
  refine region_take 9 (some 7) (v := ?_) rfl rfl (by kernel_rfl) (by kernel_rfl) (by kernel_rfl) (fun _ _ _ h => h) (by rfl) ?_ (by assumption) ?_
  rotate_left
  · (intro w hSw; (try dsimp only at hSw); go_simp; try with_reducible rfl)
  try simp only [Act.put, List.setIfInBounds_toArray, List.set_cons_zero, List.set_cons_succ]
  refine region_take 10 (some 17) (v := ?_) rfl rfl (by kernel_rfl) (by kernel_rfl) (by kernel_rfl) (fun _ _ _ h => h) (by rfl) ?_ (by assumption) ?_
  rotate_left
  · (intro w hSw; (try dsimp only at hSw); go_simp; try with_reducible rfl)
  try simp only [Act.put, List.setIfInBounds_toArray, List.set_cons_zero, List.set_cons_succ]
  refine region_take 11 (some 18) (v := ?_) rfl rfl (by kernel_rfl) (by kernel_rfl) (by kernel_rfl) (fun _ _ _ h => h) (by rfl) ?_ (by assumption) ?_
  rotate_left
  · (intro w hSw; (try dsimp only at hSw); go_simp; try with_reducible rfl)
  try simp only [Act.put, List.setIfInBounds_toArray, List.set_cons_zero, List.set_cons_succ]
  refine region_take 12 (some 19) (v := ?_) rfl rfl (by kernel_rfl) (by kernel_rfl) (by kernel_rfl) (fun _ _ _ h => h) (by rfl) ?_ (by assumption) ?_
  rotate_left
  · (intro w hSw; (try dsimp only at hSw); go_simp; try with_reducible rfl)
  try simp only [Act.put, List.setIfInBounds_toArray, List.set_cons_zero, List.set_cons_succ]
  refine region_take 13 (some 4) (v := ?_) rfl rfl (by kernel_rfl) (by kernel_rfl) (by kernel_rfl) (fun _ _ _ h => h) (by rfl) ?_ (by assumption) ?_
  rotate_left
  · (intro w hSw; (try dsimp only at hSw); go_simp; try with_reducible rfl)
  try simp only [Act.put, List.setIfInBounds_toArray, List.set_cons_zero, List.set_cons_succ]
  refine region_take 14 (some 5) (v := ?_) rfl rfl (by kernel_rfl) (by kernel_rfl) (by kernel_rfl) (fun _ _ _ h => h) (by rfl) ?_ (by assumption) ?_
  rotate_left
  · (intro w hSw; (try dsimp only at hSw); go_simp; try with_reducible rfl)
  try simp only [Act.put, List.setIfInBounds_toArray, List.set_cons_zero, List.set_cons_succ]
  refine region_take 15 (some 6) (v := ?_) rfl rfl (by kernel_rfl) (by kernel_rfl) (by kernel_rfl) (fun _ _ _ h => h) (by rfl) ?_ (by assumption) ?_
  rotate_left
  · (intro w hSw; (try dsimp only at hSw); go_simp; try with_reducible rfl)
  try simp only [Act.put, List.setIfInBounds_toArray, List.set_cons_zero, List.set_cons_succ]
  refine wpAnyH_done (by kernel_rfl) ?_ _
  clear hHeld
  go_wp2_with (first | (go_at_call 62; (with_reducible refine (fault_any _ HR1.out).mono ?_); rintro e w2 ⟨v, rfl, hs, hb⟩; have HSp := Lib.hid hs; have HB := Lib.hid hb; clear hs hb))
  go_ret2
  exact ⟨_, rfl, HSp.out, HK1.out.trans (.of_below HB.out)⟩

/-! ### a constant -/
set_option maxHeartbeats 4000000 in
set_option maxRecDepth 100000 in
theorem constant_ok (h : Rdr R w A c bs p n) (t : Int) (bits : Nat) (z : Int) (l' : List UInt8) (p' : Nat) (hb : (t = 1 ∧ bits = 32) ∨ (t = 2 ∧ bits = 64)) (hr : rdSig bits (bs.drop p) p = .ok (z, l', p')) :
    Calls Tryz.prog 68 #[.pointer (some ⟨R, 0, none⟩), .int .i64 t] w fun e w' => e = .returned (.tuple #[.int .u64 (z % (2 ^ bits : Int)), .nilIface]) ∧ Rdr R w' A c bs p' n ∧ Kx (Only R) w w' := by
  have hadv : ∃ m, Adv (bs.drop p) p l' p' m := by
    rcases hb with ⟨-, rfl⟩ | ⟨-, rfl⟩
    · exact ⟨_, (sig32_got hr).2⟩
    · exact ⟨_, (sig64_got hr).2⟩
  obtain ⟨_, hadv⟩ := hadv
  obtain ⟨-, -, hp'⟩ := Adv.dropped hadv h.hp
  have hS : Leb.sOf bs p bits = some (z, p') ∧ Leb.sOf (bs.drop p) 0 bits = some (z, p' - p) := by
    rw [Leb.sOf_drop]
    unfold rdSig at hr
    split at hr
    · cases hr
    · rename_i u k hu
      injection hr with hr
      simp only [Prod.mk.injEq] at hr
      obtain ⟨rfl, -, rfl⟩ := hr
      rw [hu]; simp
  obtain ⟨hS, hS'⟩ := hS
  have HRr := Lib.hid h
  have HP := Lib.hid hp'
  have c0 := h.c0
  have c1 := h.c1
  have hf := h.fr 1
  have hlt := h.lt
  rcases hb with ⟨rfl, rfl⟩ | ⟨rfl, rfl⟩
  · obtain ⟨z0, z1⟩ := Leb.sOf_range32 _ _ _ hS'
    have HC := Lib.hid (S_int (w := w.drew) (at_ := p) (bits := 32) (some (z, p')) h.w1.sl' (Nat.le_refl _) rfl h.hc h.hm (by decide) (by decide) (by omega) (by have := h.hp; omega) (by simpa using hS))
    unfold sV at HC
    obtain ⟨y, hy⟩ : ∃ y, y = z % (2 ^ 32 : Int) := ⟨_, rfl⟩
    rw [← hy]
    have HY := Lib.hid hy
    clear h hadv hS hS' hr hp' hy
    go_enter Tryz.func68, Tryz.ntmps68
    go_wp2_with fail
    refine wp_region_held_drew (S := fun w' => w'.cell? ⟨R, 0, none⟩ = some (.slice A bs.length c) ∧ w'.cell? ⟨R, 1, none⟩ = some (.int .i64 p)) (by kernel_rfl) ⟨c0, c1⟩ (fun hHeld => ?_)
    refine region_take 0 (some 13) (v := ?_) rfl rfl (by kernel_rfl) (by kernel_rfl) (by kernel_rfl) (fun _ _ _ h => h) (by rfl) ?_ (by assumption) ?_
    rotate_left
    · (intro w hSw; (try dsimp only at hSw); go_simp; try with_reducible rfl)
    try simp only [Act.put, List.setIfInBounds_toArray, List.set_cons_zero, List.set_cons_succ]
    refine region_take 1 (some 14) (v := ?_) rfl rfl (by kernel_rfl) (by kernel_rfl) (by kernel_rfl) (fun _ _ _ h => h) (by rfl) ?_ (by assumption) ?_
    rotate_left
    · (intro w hSw; (try dsimp only at hSw); go_simp; try with_reducible rfl)
    try simp only [Act.put, List.setIfInBounds_toArray, List.set_cons_zero, List.set_cons_succ]
    refine region_take 2 (some 15) (v := ?_) rfl rfl (by kernel_rfl) (by kernel_rfl) (by kernel_rfl) (fun _ _ _ h => h) (by rfl) ?_ (by assumption) ?_
    rotate_left
    · (intro w hSw; (try dsimp only at hSw); go_simp; try with_reducible rfl)
    try simp only [Act.put, List.setIfInBounds_toArray, List.set_cons_zero, List.set_cons_succ]
    refine region_take 3 (some 16) (v := ?_) rfl rfl (by kernel_rfl) (by kernel_rfl) (by kernel_rfl) (fun _ _ _ h => h) (by rfl) ?_ (by assumption) ?_
    rotate_left
    · (intro w hSw; (try dsimp only at hSw); go_simp; try with_reducible rfl)
    try simp only [Act.put, List.setIfInBounds_toArray, List.set_cons_zero, List.set_cons_succ]
    refine region_take 4 (some 17) (v := ?_) rfl rfl (by kernel_rfl) (by kernel_rfl) (by kernel_rfl) (fun _ _ _ h => h) (by rfl) ?_ (by assumption) ?_
    rotate_left
    · (intro w hSw; (try dsimp only at hSw); go_simp; try with_reducible rfl)
    try simp only [Act.put, List.setIfInBounds_toArray, List.set_cons_zero, List.set_cons_succ]
    refine region_take 5 (some 18) (v := ?_) rfl rfl (by kernel_rfl) (by kernel_rfl) (by kernel_rfl) (fun _ _ _ h => h) (by rfl) ?_ (by assumption) ?_
    rotate_left
    · (intro w hSw; (try dsimp only at hSw); go_simp; try with_reducible rfl)
    try simp only [Act.put, List.setIfInBounds_toArray, List.set_cons_zero, List.set_cons_succ]
    refine region_take 6 (some 19) (v := ?_) rfl rfl (by kernel_rfl) (by kernel_rfl) (by kernel_rfl) (fun _ _ _ h => h) (by rfl) ?_ (by assumption) ?_
    rotate_left
    · (intro w hSw; (try dsimp only at hSw); go_simp; try with_reducible rfl)
    try simp only [Act.put, List.setIfInBounds_toArray, List.set_cons_zero, List.set_cons_succ]
    refine region_take 7 (some 20) (v := ?_) rfl rfl (by kernel_rfl) (by kernel_rfl) (by kernel_rfl) (fun _ _ _ h => h) (by rfl) ?_ (by assumption) ?_
    rotate_left
    · (intro w hSw; (try dsimp only at hSw); go_simp; try with_reducible rfl)
    try simp only [Act.put, List.setIfInBounds_toArray, List.set_cons_zero, List.set_cons_succ]
    refine region_take 8 (some 21) (v := ?_) rfl rfl (by kernel_rfl) (by kernel_rfl) (by kernel_rfl) (fun _ _ _ h => h) (by rfl) ?_ (by assumption) ?_
    rotate_left
    · (intro w hSw; (try dsimp only at hSw); go_simp; try with_reducible rfl)
    try simp only [Act.put, List.setIfInBounds_toArray, List.set_cons_zero, List.set_cons_succ]
    refine wpAnyH_ready (rs := [9]) (by kernel_rfl) (by simp) ?_
    refine AllReadyH.cons rfl (fun K hK => ?_) AllReadyH.nil
    go_simp
    refine HC.out.mono ?_
    rintro e w1 ⟨rfl, hw1⟩
    have HR1 : Hid (Rdr R w1 A c bs p n) := Lib.hid (by rw [← hw1]; exact HRr.out.w1)
    have HK1 : Hid (Kx (Only R) w w1) := Lib.hid (by rw [← hw1]; exact Kx.w1)
    have d0 := HR1.out.c0
    have d1 := HR1.out.c1
    have df := HR1.out.fr 1
    have hlt1 := HR1.out.lt
    clear hw1 hHeld c0 c1 hf hlt
    go_wp2_with fail
    refine hK.out _ _ ⟨d0, d1⟩ (fun hHeld => ?_)
    clear hK K
    try simp only [Act.put, List.setIfInBounds_toArray, List.set_cons_zero, List.set_cons_succ]
    refine region_take 10 (some 12) (v := ?_) rfl rfl (by kernel_rfl) (by kernel_rfl) (by kernel_rfl) (fun _ _ _ h => h) (by rfl) ?_ (by assumption) ?_
    rotate_left
    · (intro w hSw; (try dsimp only at hSw); go_simp; try with_reducible rfl)
    try simp only [Act.put, List.setIfInBounds_toArray, List.set_cons_zero, List.set_cons_succ]
    refine region_take 11 (some 23) (v := ?_) rfl rfl (by kernel_rfl) (by kernel_rfl) (by kernel_rfl) (fun _ _ _ h => h) (by rfl) ?_ (by assumption) ?_
    rotate_left
    · (intro w hSw; (try dsimp only at hSw); go_simp; try with_reducible rfl)
    try simp only [Act.put, List.setIfInBounds_toArray, List.set_cons_zero, List.set_cons_succ]
    refine region_take 12 (some 24) (v := ?_) rfl rfl (by kernel_rfl) (by kernel_rfl) (by kernel_rfl) (fun _ _ _ h => h) (by rfl) ?_ (by assumption) ?_
    rotate_left
    · (intro w hSw; (try dsimp only at hSw); go_simp; try with_reducible rfl)
    try simp only [Act.put, List.setIfInBounds_toArray, List.set_cons_zero, List.set_cons_succ]
    refine region_take 13 (some 25) (v := ?_) rfl rfl (by kernel_rfl) (by kernel_rfl) (by kernel_rfl) (fun _ _ _ h => h) (by rfl) ?_ (by assumption) ?_
    rotate_left
    · (intro w hSw; (try dsimp only at hSw); go_simp; try with_reducible rfl)
    try simp only [Act.put, List.setIfInBounds_toArray, List.set_cons_zero, List.set_cons_succ]
    refine region_take 14 (some 7) (v := ?_) rfl rfl (by kernel_rfl) (by kernel_rfl) (by kernel_rfl) (fun _ _ _ h => h) (by rfl) ?_ (by assumption) ?_
    rotate_left
    · (intro w hSw; (try dsimp only at hSw); go_simp; try with_reducible rfl)
    try simp only [Act.put, List.setIfInBounds_toArray, List.set_cons_zero, List.set_cons_succ]
    refine region_take 15 (some 8) (v := ?_) rfl rfl (by kernel_rfl) (by kernel_rfl) (by kernel_rfl) (fun _ _ _ h => h) (by rfl) ?_ (by assumption) ?_
    rotate_left
    · (intro w hSw; (try dsimp only at hSw); go_simp; try with_reducible rfl)
    try simp only [Act.put, List.setIfInBounds_toArray, List.set_cons_zero, List.set_cons_succ]
    refine region_take 16 (some 9) (v := ?_) rfl rfl (by kernel_rfl) (by kernel_rfl) (by kernel_rfl) (fun _ _ _ h => h) (by rfl) ?_ (by assumption) ?_
    rotate_left
    · (intro w hSw; (try dsimp only at hSw); go_simp; try with_reducible rfl)
    try simp only [Act.put, List.setIfInBounds_toArray, List.set_cons_zero, List.set_cons_succ]
    refine wpAnyH_done (by kernel_rfl) ?_ _
    clear hHeld
    go_wp2_with fail
    go_ret2
    refine ⟨ret_two (congrArg (Value.int .u64) ?_) rfl, HR1.out.setAt HP.out, HK1.out.setCell (.inl rfl) _⟩
    rw [HY.out]
    rfl
  · obtain ⟨z0, z1⟩ := Leb.sOf_range64 _ _ _ hS'
    have HC := Lib.hid (S_int (w := w.drew) (at_ := p) (bits := 64) (some (z, p')) h.w1.sl' (Nat.le_refl _) rfl h.hc h.hm (by decide) (by decide) (by omega) (by have := h.hp; omega) (by simpa using hS))
    unfold sV at HC
    obtain ⟨y, hy⟩ : ∃ y, y = z % (2 ^ 64 : Int) := ⟨_, rfl⟩
    rw [← hy]
    have HY := Lib.hid hy
    clear h hadv hS hS' hr hp' hy
    go_enter Tryz.func68, Tryz.ntmps68
    go_wp2_with fail
    refine wp_region_held_drew (S := fun w' => w'.cell? ⟨R, 0, none⟩ = some (.slice A bs.length c) ∧ w'.cell? ⟨R, 1, none⟩ = some (.int .i64 p)) (by kernel_rfl) ⟨c0, c1⟩ (fun hHeld => ?_)
    refine region_take 0 (some 13) (v := ?_) rfl rfl (by kernel_rfl) (by kernel_rfl) (by kernel_rfl) (fun _ _ _ h => h) (by rfl) ?_ (by assumption) ?_
    rotate_left
    · (intro w hSw; (try dsimp only at hSw); go_simp; try with_reducible rfl)
    try simp only [Act.put, List.setIfInBounds_toArray, List.set_cons_zero, List.set_cons_succ]
    refine region_take 1 (some 14) (v := ?_) rfl rfl (by kernel_rfl) (by kernel_rfl) (by kernel_rfl) (fun _ _ _ h => h) (by rfl) ?_ (by assumption) ?_
    rotate_left
    · (intro w hSw; (try dsimp only at hSw); go_simp; try with_reducible rfl)
    try simp only [Act.put, List.setIfInBounds_toArray, List.set_cons_zero, List.set_cons_succ]
    refine region_take 2 (some 15) (v := ?_) rfl rfl (by kernel_rfl) (by kernel_rfl) (by kernel_rfl) (fun _ _ _ h => h) (by rfl) ?_ (by assumption) ?_
    rotate_left
    · (intro w hSw; (try dsimp only at hSw); go_simp; try with_reducible rfl)
    try simp only [Act.put, List.setIfInBounds_toArray, List.set_cons_zero, List.set_cons_succ]
    refine region_take 3 (some 16) (v := ?_) rfl rfl (by kernel_rfl) (by kernel_rfl) (by kernel_rfl) (fun _ _ _ h => h) (by rfl) ?_ (by assumption) ?_
    rotate_left
    · (intro w hSw; (try dsimp only at hSw); go_simp; try with_reducible rfl)
    try simp only [Act.put, List.setIfInBounds_toArray, List.set_cons_zero, List.set_cons_succ]
    refine region_take 4 (some 17) (v := ?_) rfl rfl (by kernel_rfl) (by kernel_rfl) (by kernel_rfl) (fun _ _ _ h => h) (by rfl) ?_ (by assumption) ?_
    rotate_left
    · (intro w hSw; (try dsimp only at hSw); go_simp; try with_reducible rfl)
    try simp only [Act.put, List.setIfInBounds_toArray, List.set_cons_zero, List.set_cons_succ]
    refine region_take 5 (some 18) (v := ?_) rfl rfl (by kernel_rfl) (by kernel_rfl) (by kernel_rfl) (fun _ _ _ h => h) (by rfl) ?_ (by assumption) ?_
    rotate_left
    · (intro w hSw; (try dsimp only at hSw); go_simp; try with_reducible rfl)
    try simp only [Act.put, List.setIfInBounds_toArray, List.set_cons_zero, List.set_cons_succ]
    refine region_take 6 (some 19) (v := ?_) rfl rfl (by kernel_rfl) (by kernel_rfl) (by kernel_rfl) (fun _ _ _ h => h) (by rfl) ?_ (by assumption) ?_
    rotate_left
    · (intro w hSw; (try dsimp only at hSw); go_simp; try with_reducible rfl)
    try simp only [Act.put, List.setIfInBounds_toArray, List.set_cons_zero, List.set_cons_succ]
    refine region_take 7 (some 20) (v := ?_) rfl rfl (by kernel_rfl) (by kernel_rfl) (by kernel_rfl) (fun _ _ _ h => h) (by rfl) ?_ (by assumption) ?_
    rotate_left
    · (intro w hSw; (try dsimp only at hSw); go_simp; try with_reducible rfl)
    try simp only [Act.put, List.setIfInBounds_toArray, List.set_cons_zero, List.set_cons_succ]
    refine region_take 8 (some 21) (v := ?_) rfl rfl (by kernel_rfl) (by kernel_rfl) (by kernel_rfl) (fun _ _ _ h => h) (by rfl) ?_ (by assumption) ?_
    rotate_left
    · (intro w hSw; (try dsimp only at hSw); go_simp; try with_reducible rfl)
    try simp only [Act.put, List.setIfInBounds_toArray, List.set_cons_zero, List.set_cons_succ]
    refine wpAnyH_ready (rs := [9]) (by kernel_rfl) (by simp) ?_
    refine AllReadyH.cons rfl (fun K hK => ?_) AllReadyH.nil
    go_simp
    refine HC.out.mono ?_
    rintro e w1 ⟨rfl, hw1⟩
    have HR1 : Hid (Rdr R w1 A c bs p n) := Lib.hid (by rw [← hw1]; exact HRr.out.w1)
    have HK1 : Hid (Kx (Only R) w w1) := Lib.hid (by rw [← hw1]; exact Kx.w1)
    have d0 := HR1.out.c0
    have d1 := HR1.out.c1
    have df := HR1.out.fr 1
    have hlt1 := HR1.out.lt
    clear hw1 hHeld c0 c1 hf hlt
    go_wp2_with fail
    refine hK.out _ _ ⟨d0, d1⟩ (fun hHeld => ?_)
    clear hK K
    try simp only [Act.put, List.setIfInBounds_toArray, List.set_cons_zero, List.set_cons_succ]
    refine region_take 10 (some 12) (v := ?_) rfl rfl (by kernel_rfl) (by kernel_rfl) (by kernel_rfl) (fun _ _ _ h => h) (by rfl) ?_ (by assumption) ?_
    rotate_left
    · (intro w hSw; (try dsimp only at hSw); go_simp; try with_reducible rfl)
    try simp only [Act.put, List.setIfInBounds_toArray, List.set_cons_zero, List.set_cons_succ]
    refine region_take 11 (some 23) (v := ?_) rfl rfl (by kernel_rfl) (by kernel_rfl) (by kernel_rfl) (fun _ _ _ h => h) (by rfl) ?_ (by assumption) ?_
    rotate_left
    · (intro w hSw; (try dsimp only at hSw); go_simp; try with_reducible rfl)
    try simp only [Act.put, List.setIfInBounds_toArray, List.set_cons_zero, List.set_cons_succ]
    refine region_take 12 (some 24) (v := ?_) rfl rfl (by kernel_rfl) (by kernel_rfl) (by kernel_rfl) (fun _ _ _ h => h) (by rfl) ?_ (by assumption) ?_
    rotate_left
    · (intro w hSw; (try dsimp only at hSw); go_simp; try with_reducible rfl)
    try simp only [Act.put, List.setIfInBounds_toArray, List.set_cons_zero, List.set_cons_succ]
    refine region_take 13 (some 25) (v := ?_) rfl rfl (by kernel_rfl) (by kernel_rfl) (by kernel_rfl) (fun _ _ _ h => h) (by rfl) ?_ (by assumption) ?_
    rotate_left
    · (intro w hSw; (try dsimp only at hSw); go_simp; try with_reducible rfl)
    try simp only [Act.put, List.setIfInBounds_toArray, List.set_cons_zero, List.set_cons_succ]
    refine region_take 14 (some 7) (v := ?_) rfl rfl (by kernel_rfl) (by kernel_rfl) (by kernel_rfl) (fun _ _ _ h => h) (by rfl) ?_ (by assumption) ?_
    rotate_left
    · (intro w hSw; (try dsimp only at hSw); go_simp; try with_reducible rfl)
    try simp only [Act.put, List.setIfInBounds_toArray, List.set_cons_zero, List.set_cons_succ]
    refine region_take 15 (some 8) (v := ?_) rfl rfl (by kernel_rfl) (by kernel_rfl) (by kernel_rfl) (fun _ _ _ h => h) (by rfl) ?_ (by assumption) ?_
    rotate_left
    · (intro w hSw; (try dsimp only at hSw); go_simp; try with_reducible rfl)
    try simp only [Act.put, List.setIfInBounds_toArray, List.set_cons_zero, List.set_cons_succ]
    refine region_take 16 (some 9) (v := ?_) rfl rfl (by kernel_rfl) (by kernel_rfl) (by kernel_rfl) (fun _ _ _ h => h) (by rfl) ?_ (by assumption) ?_
    rotate_left
    · (intro w hSw; (try dsimp only at hSw); go_simp; try with_reducible rfl)
    try simp only [Act.put, List.setIfInBounds_toArray, List.set_cons_zero, List.set_cons_succ]
    refine wpAnyH_done (by kernel_rfl) ?_ _
    clear hHeld
    go_wp2_with fail
    go_ret2
    refine ⟨ret_two (congrArg (Value.int .u64) ?_) rfl, HR1.out.setAt HP.out, HK1.out.setCell (.inl rfl) _⟩
    rw [HY.out]
    rfl
set_option maxHeartbeats 4000000 in
set_option maxRecDepth 100000 in
theorem constant_err (h : Rdr R w A c bs p n) (t : Int) (bits : Nat) (er : Nat × Nat) (hb : (t = 1 ∧ bits = 32) ∨ (t = 2 ∧ bits = 64)) (hr : rdSig bits (bs.drop p) p = .error er) :
    Calls Tryz.prog 68 #[.pointer (some ⟨R, 0, none⟩), .int .i64 t] w fun e w' => ∃ v, e = .returned (.tuple #[.int .u64 0, v]) ∧ SpotIs w' v er.2 er.1 ∧ Kx (Only R) w w' := by
  have hS : Leb.sOf bs p bits = none ∧ er = (2, p) := by
    rw [Leb.sOf_drop]
    unfold rdSig at hr
    split at hr
    · rename_i hu
      injection hr with hr
      rw [hu]
      exact ⟨rfl, hr.symm⟩
    · cases hr
  obtain ⟨hS, rfl⟩ := hS
  have HRr := Lib.hid h
  have c0 := h.c0
  have c1 := h.c1
  have HC : Hid (∀ b : Int, b = bits → Calls Tryz.prog 88 #[.slice A bs.length c, .int .i64 p, .int .i64 b] w.drew fun e w' => e = .returned (sV none) ∧ w.drew = w') := Lib.hid fun b hbb => by
    subst hbb
    refine S_int (w := w.drew) (at_ := p) (bits := bits) none h.w1.sl' (Nat.le_refl _) rfl h.hc h.hm ?_ ?_ (by omega) (by have := h.hp; omega) (by simpa using hS)
    · rcases hb with ⟨-, rfl⟩ | ⟨-, rfl⟩ <;> decide
    · rcases hb with ⟨-, rfl⟩ | ⟨-, rfl⟩ <;> decide
  unfold sV at HC
  clear h hS hr
  rcases hb with ⟨rfl, rfl⟩ | ⟨rfl, rfl⟩
  all_goals
    go_enter Tryz.func68, Tryz.ntmps68
    go_wp2_with fail
    refine wp_region_held_drew (S := fun w' => w'.cell? ⟨R, 0, none⟩ = some (.slice A bs.length c) ∧ w'.cell? ⟨R, 1, none⟩ = some (.int .i64 p)) (by kernel_rfl) ⟨c0, c1⟩ (fun hHeld => ?_)
    refine region_take 0 (some 13) (v := ?_) rfl rfl (by kernel_rfl) (by kernel_rfl) (by kernel_rfl) (fun _ _ _ h => h) (by rfl) ?_ (by assumption) ?_
    rotate_left
    · (intro w hSw; (try dsimp only at hSw); go_simp; try with_reducible rfl)
    try simp only [Act.put, List.setIfInBounds_toArray, List.set_cons_zero, List.set_cons_succ]
    refine region_take 1 (some 14) (v := ?_) rfl rfl (by kernel_rfl) (by kernel_rfl) (by kernel_rfl) (fun _ _ _ h => h) (by rfl) ?_ (by assumption) ?_
    rotate_left
    · (intro w hSw; (try dsimp only at hSw); go_simp; try with_reducible rfl)
    try simp only [Act.put, List.setIfInBounds_toArray, List.set_cons_zero, List.set_cons_succ]
    refine region_take 2 (some 15) (v := ?_) rfl rfl (by kernel_rfl) (by kernel_rfl) (by kernel_rfl) (fun _ _ _ h => h) (by rfl) ?_ (by assumption) ?_
    rotate_left
    · (intro w hSw; (try dsimp only at hSw); go_simp; try with_reducible rfl)
    try simp only [Act.put, List.setIfInBounds_toArray, List.set_cons_zero, List.set_cons_succ]
    refine region_take 3 (some 16) (v := ?_) rfl rfl (by kernel_rfl) (by kernel_rfl) (by kernel_rfl) (fun _ _ _ h => h) (by rfl) ?_ (by assumption) ?_
    rotate_left
    · (intro w hSw; (try dsimp only at hSw); go_simp; try with_reducible rfl)
    try simp only [Act.put, List.setIfInBounds_toArray, List.set_cons_zero, List.set_cons_succ]
    refine region_take 4 (some 17) (v := ?_) rfl rfl (by kernel_rfl) (by kernel_rfl) (by kernel_rfl) (fun _ _ _ h => h) (by rfl) ?_ (by assumption) ?_
    rotate_left
    · (intro w hSw; (try dsimp only at hSw); go_simp; try with_reducible rfl)
    try simp only [Act.put, List.setIfInBounds_toArray, List.set_cons_zero, List.set_cons_succ]
    refine region_take 5 (some 18) (v := ?_) rfl rfl (by kernel_rfl) (by kernel_rfl) (by kernel_rfl) (fun _ _ _ h => h) (by rfl) ?_ (by assumption) ?_
    rotate_left
    · (intro w hSw; (try dsimp only at hSw); go_simp; try with_reducible rfl)
    try simp only [Act.put, List.setIfInBounds_toArray, List.set_cons_zero, List.set_cons_succ]
    refine region_take 6 (some 19) (v := ?_) rfl rfl (by kernel_rfl) (by kernel_rfl) (by kernel_rfl) (fun _ _ _ h => h) (by rfl) ?_ (by assumption) ?_
    rotate_left
    · (intro w hSw; (try dsimp only at hSw); go_simp; try with_reducible rfl)
    try simp only [Act.put, List.setIfInBounds_toArray, List.set_cons_zero, List.set_cons_succ]
    refine region_take 7 (some 20) (v := ?_) rfl rfl (by kernel_rfl) (by kernel_rfl) (by kernel_rfl) (fun _ _ _ h => h) (by rfl) ?_ (by assumption) ?_
    rotate_left
    · (intro w hSw; (try dsimp only at hSw); go_simp; try with_reducible rfl)
    try simp only [Act.put, List.setIfInBounds_toArray, List.set_cons_zero, List.set_cons_succ]
    refine region_take 8 (some 21) (v := ?_) rfl rfl (by kernel_rfl) (by kernel_rfl) (by kernel_rfl) (fun _ _ _ h => h) (by rfl) ?_ (by assumption) ?_
    rotate_left
    · (intro w hSw; (try dsimp only at hSw); go_simp; try with_reducible rfl)
    try simp only [Act.put, List.setIfInBounds_toArray, List.set_cons_zero, List.set_cons_succ]
    refine wpAnyH_ready (rs := [9]) (by kernel_rfl) (by simp) ?_
    refine AllReadyH.cons rfl (fun K hK => ?_) AllReadyH.nil
    go_simp
    refine (HC.out _ rfl).mono ?_
    rintro e w1 ⟨rfl, hw1⟩
    have HR1 : Hid (Rdr R w1 A c bs p n) := Lib.hid (by rw [← hw1]; exact HRr.out.w1)
    have HK1 : Hid (Kx (Only R) w w1) := Lib.hid (by rw [← hw1]; exact Kx.w1)
    have d0 := HR1.out.c0
    have d1 := HR1.out.c1
    clear hw1 hHeld c0 c1
    go_wp2_with fail
    refine hK.out _ _ ⟨d0, d1⟩ (fun hHeld => ?_)
    clear hK K
    try simp only [Act.put, List.setIfInBounds_toArray, List.set_cons_zero, List.set_cons_succ]
    refine region_take 10 (some 12) (v := ?_) rfl rfl (by kernel_rfl) (by kernel_rfl) (by kernel_rfl) (fun _ _ _ h => h) (by rfl) ?_ (by assumption) ?_
    rotate_left
    · (intro w hSw; (try dsimp only at hSw); go_simp; try with_reducible rfl)
    try simp only [Act.put, List.setIfInBounds_toArray, List.set_cons_zero, List.set_cons_succ]
    refine region_take 11 (some 23) (v := ?_) rfl rfl (by kernel_rfl) (by kernel_rfl) (by kernel_rfl) (fun _ _ _ h => h) (by rfl) ?_ (by assumption) ?_
    rotate_left
    · (intro w hSw; (try dsimp only at hSw); go_simp; try with_reducible rfl)
    try simp only [Act.put, List.setIfInBounds_toArray, List.set_cons_zero, List.set_cons_succ]
    refine region_take 12 (some 24) (v := ?_) rfl rfl (by kernel_rfl) (by kernel_rfl) (by kernel_rfl) (fun _ _ _ h => h) (by rfl) ?_ (by assumption) ?_
    rotate_left
    · (intro w hSw; (try dsimp only at hSw); go_simp; try with_reducible rfl)
    try simp only [Act.put, List.setIfInBounds_toArray, List.set_cons_zero, List.set_cons_succ]
    refine region_take 13 (some 25) (v := ?_) rfl rfl (by kernel_rfl) (by kernel_rfl) (by kernel_rfl) (fun _ _ _ h => h) (by rfl) ?_ (by assumption) ?_
    rotate_left
    · (intro w hSw; (try dsimp only at hSw); go_simp; try with_reducible rfl)
    try simp only [Act.put, List.setIfInBounds_toArray, List.set_cons_zero, List.set_cons_succ]
    refine region_take 14 (some 7) (v := ?_) rfl rfl (by kernel_rfl) (by kernel_rfl) (by kernel_rfl) (fun _ _ _ h => h) (by rfl) ?_ (by assumption) ?_
    rotate_left
    · (intro w hSw; (try dsimp only at hSw); go_simp; try with_reducible rfl)
    try simp only [Act.put, List.setIfInBounds_toArray, List.set_cons_zero, List.set_cons_succ]
    refine region_take 15 (some 8) (v := ?_) rfl rfl (by kernel_rfl) (by kernel_rfl) (by kernel_rfl) (fun _ _ _ h => h) (by rfl) ?_ (by assumption) ?_
    rotate_left
    · (intro w hSw; (try dsimp only at hSw); go_simp; try with_reducible rfl)
    try simp only [Act.put, List.setIfInBounds_toArray, List.set_cons_zero, List.set_cons_succ]
    refine region_take 16 (some 9) (v := ?_) rfl rfl (by kernel_rfl) (by kernel_rfl) (by kernel_rfl) (fun _ _ _ h => h) (by rfl) ?_ (by assumption) ?_
    rotate_left
    · (intro w hSw; (try dsimp only at hSw); go_simp; try with_reducible rfl)
    try simp only [Act.put, List.setIfInBounds_toArray, List.set_cons_zero, List.set_cons_succ]
    refine wpAnyH_done (by kernel_rfl) ?_ _
    clear hHeld
    go_wp2_with (first | (go_at_call 62; (with_reducible refine (fault_any _ HR1.out).mono ?_); rintro e w2 ⟨v, rfl, hs, hb⟩; have HSp := Lib.hid hs; have HB := Lib.hid hb; clear hs hb))
    go_ret2
    exact ⟨_, rfl, HSp.out, HK1.out.trans (.of_below HB.out)⟩

/-! ### a zero -/
set_option maxHeartbeats 4000000 in
set_option maxRecDepth 100000 in
theorem zero_ok (h : Rdr R w A c bs p n) (u : Unit) (l' : List UInt8) (p' : Nat) (hr : rdMust 0 (bs.drop p) p = .ok (u, l', p')) :
    Calls Tryz.prog 66 #[.pointer (some ⟨R, 0, none⟩)] w fun e w' => e = .returned .nilIface ∧ Rdr R w' A c bs p' n ∧ Kx (Only R) w w' := by
  obtain ⟨-, -, hp'⟩ := Adv.dropped (must_got hr) h.hp
  have hb : bs[p]? = some 0 ∧ p' = p + 1 := by
    cases hg : bs[p]? with
    | none => rw [(at_end hg h.hp).2] at hr; cases hr
    | some b =>
      rw [drop_at hg, must_cons] at hr
      split at hr
      · rename_i e
        injection hr with hr
        simp only [Prod.mk.injEq] at hr
        exact ⟨by rw [e], hr.2.2.symm⟩
      · cases hr
  obtain ⟨hb, rfl⟩ := hb
  have HPk := Lib.hid (peek_ok h 0 hb)
  have HRr := Lib.hid h
  have HP := Lib.hid hp'
  have hpm : (p : Int) ≤ 9223372036854775806 := by have := h.hc; have := h.hm; unfold maxLen at this; omega
  clear h hb hr hp'
  go_enter Tryz.func66, Tryz.ntmps66
  go_wp2_with (first | (go_at_call 39; (with_reducible refine HPk.out.mono ?_); rintro e w1 ⟨rfl, nq, hw1⟩; have HR1 : Hid (Rdr R w1 A c bs p n) := Lib.hid (by rw [hw1]; exact HRr.out.drewN nq); have HK1 : Hid (Kx (Only R) w w1) := Lib.hid (by rw [hw1]; exact Kx.refl_.drewN nq); have d0 := HR1.out.c0; have d1 := HR1.out.c1; have df := HR1.out.fr 1; have hlt1 := HR1.out.lt; clear hw1))
  go_ret
  exact ⟨rfl, HR1.out.setAt HP.out, HK1.out.setCell (.inl rfl) _⟩
set_option maxHeartbeats 4000000 in
set_option maxRecDepth 100000 in
theorem zero_err (h : Rdr R w A c bs p n) (er : Nat × Nat) (hr : rdMust 0 (bs.drop p) p = .error er) :
    Calls Tryz.prog 66 #[.pointer (some ⟨R, 0, none⟩)] w fun e w' => ∃ v, e = .returned v ∧ SpotIs w' v er.2 er.1 ∧ Kx (Only R) w w' := by
  have HRr := Lib.hid h
  cases hg : bs[p]? with
  | none =>
    obtain ⟨rfl, hd⟩ := at_end hg h.hp
    rw [hd] at hr
    injection hr with hr
    subst hr
    have HPk := Lib.hid (peek_end h)
    clear h hd hg
    go_enter Tryz.func66, Tryz.ntmps66
    go_wp2_with (first | (go_at_call 39; (with_reducible refine HPk.out.mono ?_); rintro e w1 ⟨v, rfl, ⟨sb, so, rfl, hs1, hs2⟩, hb⟩; have HB := Lib.hid hb; have HS1 := Lib.hid hs1; have HS2 := Lib.hid hs2; clear hb hs1 hs2))
    go_ret
    exact ⟨_, rfl, ⟨sb, so, rfl, HS1.out, HS2.out⟩, .of_below HB.out⟩
  | some b =>
    rw [drop_at hg, must_cons] at hr
    split at hr
    · cases hr
    rename_i hne
    injection hr with hr
    subst hr
    have HPk := Lib.hid (peek_ok h b hg)
    have tb : ((b.toNat : Int) != 0) = true := by
      have : b.toNat ≠ 0 := fun e => hne (UInt8.toNat_inj.1 (by rw [e]; rfl))
      simp; omega
    obtain ⟨x, hx⟩ : ∃ x : Int, x = b.toNat := ⟨_, rfl⟩
    rw [← hx] at HPk tb
    clear h hg hne hx
    go_enter Tryz.func66, Tryz.ntmps66
    go_wp2_with (first
      | (go_at_call 39; (with_reducible refine HPk.out.mono ?_); rintro e w1 ⟨rfl, nq, hw1⟩; have HR1 : Hid (Rdr R w1 A c bs p n) := Lib.hid (by rw [hw1]; exact HRr.out.drewN nq); have HK1 : Hid (Kx (Only R) w w1) := Lib.hid (by rw [hw1]; exact Kx.refl_.drewN nq); clear hw1)
      | (go_at_call 62; (with_reducible refine (fault_any _ HR1.out).mono ?_); rintro e w2 ⟨v, rfl, hs, hb⟩; have HSp := Lib.hid hs; have HB := Lib.hid hb; clear hs hb))
    go_ret
    exact ⟨_, rfl, HSp.out, HK1.out.trans (.of_below HB.out)⟩
end
end Go.Proofs.YtbhniddgkdldlaaGreatDoor

/- Layer 6's reader: contracts of expr.reader's result, operation. -/
namespace Go.Proofs.YtbhniddgkdldlaaGreatDoor
open Go.RowKit Trx

section
variable {R : Nat} {w : World} {A : Option Addr} {c : Nat} {bs : List UInt8} {p n : Nat}
set_option maxHeartbeats 4000000 in
set_option maxRecDepth 100000 in
theorem result_ok (h : Rdr R w A c bs p n) (t : Int) (l' : List UInt8) (p' : Nat) (hr : rdKind (bs.drop p) p = .ok (t, l', p')) :
    Calls Tryz.prog 86 #[.pointer (some ⟨R, 0, none⟩)] w fun e w' => e = .returned (.tuple #[.int .i64 t, .nilIface]) ∧ Rdr R w' A c bs p' n ∧ Kx (Only R) w w' := by
  obtain ⟨-, -, hp'⟩ := Adv.dropped (kind_got hr).2 h.hp
  have hb : p' = p + 1 ∧ ((bs[p]? = some 64 ∧ t = 0) ∨ (bs[p]? = some 127 ∧ t = 1) ∨ (bs[p]? = some 126 ∧ t = 2)) := by
    cases hg : bs[p]? with
    | none => rw [(at_end hg h.hp).2] at hr; cases hr
    | some b =>
      rw [drop_at hg, kind_cons] at hr
      by_cases e1 : b = 64
      · rw [if_pos e1] at hr
        injection hr with hr
        simp only [Prod.mk.injEq] at hr
        exact ⟨hr.2.2.symm, .inl ⟨by rw [e1], hr.1.symm⟩⟩
      rw [if_neg e1] at hr
      by_cases e2 : b = 127
      · rw [if_pos e2] at hr
        injection hr with hr
        simp only [Prod.mk.injEq] at hr
        exact ⟨hr.2.2.symm, .inr (.inl ⟨by rw [e2], hr.1.symm⟩)⟩
      rw [if_neg e2] at hr
      by_cases e3 : b = 126
      · rw [if_pos e3] at hr
        injection hr with hr
        simp only [Prod.mk.injEq] at hr
        exact ⟨hr.2.2.symm, .inr (.inr ⟨by rw [e3], hr.1.symm⟩)⟩
      rw [if_neg e3] at hr
      split at hr <;> cases hr
  obtain ⟨rfl, hb⟩ := hb
  have HRr := Lib.hid h
  have HP := Lib.hid hp'
  have hpm : (p : Int) ≤ 9223372036854775806 := by have := h.hc; have := h.hm; unfold maxLen at this; omega
  rcases hb with ⟨hb, rfl⟩ | ⟨hb, rfl⟩ | ⟨hb, rfl⟩
  all_goals
    have HPk := Lib.hid (peek_ok h _ hb)
    clear h hb hr hp'
    go_enter Tryz.func86, Tryz.ntmps86
    go_wp2_with (first | (go_at_call 39; (with_reducible refine HPk.out.mono ?_); rintro e w1 ⟨rfl, nq, hw1⟩; have HR1 : Hid (Rdr R w1 A c bs p n) := Lib.hid (by rw [hw1]; exact HRr.out.drewN nq); have HK1 : Hid (Kx (Only R) w w1) := Lib.hid (by rw [hw1]; exact Kx.refl_.drewN nq); have d0 := HR1.out.c0; have d1 := HR1.out.c1; have df := HR1.out.fr 1; have hlt1 := HR1.out.lt; clear hw1))
    go_ret2
    exact ⟨rfl, HR1.out.setAt HP.out, HK1.out.setCell (.inl rfl) _⟩
set_option maxHeartbeats 4000000 in
set_option maxRecDepth 100000 in
theorem result_err (h : Rdr R w A c bs p n) (er : Nat × Nat) (hr : rdKind (bs.drop p) p = .error er) :
    Calls Tryz.prog 86 #[.pointer (some ⟨R, 0, none⟩)] w fun e w' => ∃ v, e = .returned (.tuple #[.int .i64 0, v]) ∧ SpotIs w' v er.2 er.1 ∧ Kx (Only R) w w' := by
  have HRr := Lib.hid h
  cases hg : bs[p]? with
  | none =>
    obtain ⟨rfl, hd⟩ := at_end hg h.hp
    rw [hd] at hr
    injection hr with hr
    subst hr
    have HPk := Lib.hid (peek_end h)
    clear h hd hg
    go_enter Tryz.func86, Tryz.ntmps86
    go_wp2_with (first | (go_at_call 39; (with_reducible refine HPk.out.mono ?_); rintro e w1 ⟨v, rfl, ⟨sb, so, rfl, hs1, hs2⟩, hb⟩; have HB := Lib.hid hb; have HS1 := Lib.hid hs1; have HS2 := Lib.hid hs2; clear hb hs1 hs2))
    go_ret2
    exact ⟨_, rfl, ⟨sb, so, rfl, HS1.out, HS2.out⟩, .of_below HB.out⟩
  | some b =>
    rw [drop_at hg, kind_cons] at hr
    have HPk := Lib.hid (peek_ok h b hg)
    by_cases e1 : b = 64
    · rw [if_pos e1] at hr; cases hr
    rw [if_neg e1] at hr
    by_cases e2 : b = 127
    · rw [if_pos e2] at hr; cases hr
    rw [if_neg e2] at hr
    by_cases e3 : b = 126
    · rw [if_pos e3] at hr; cases hr
    rw [if_neg e3] at hr
    have t1 := u8_ne (k := 64) e1 rfl
    have t2 := u8_ne (k := 127) e2 rfl
    have t3 := u8_ne (k := 126) e3 rfl
    have hcs : (b = 125 ∧ er = (3, p)) ∨ (b = 124 ∧ er = (3, p)) ∨ (b ≠ 125 ∧ b ≠ 124 ∧ er = (2, p)) := by
      by_cases e4 : b = 125
      · rw [if_pos (Or.inl e4)] at hr; injection hr with hr; exact .inl ⟨e4, hr.symm⟩
      by_cases e5 : b = 124
      · rw [if_pos (Or.inr e5)] at hr; injection hr with hr; exact .inr (.inl ⟨e5, hr.symm⟩)
      rw [if_neg (by simp [e4, e5])] at hr
      injection hr with hr
      exact .inr (.inr ⟨e4, e5, hr.symm⟩)
    clear h hg hr e1 e2 e3
    rcases hcs with ⟨rfl, rfl⟩ | ⟨rfl, rfl⟩ | ⟨e4, e5, rfl⟩
    · clear t1 t2 t3
      go_enter Tryz.func86, Tryz.ntmps86
      go_wp2_with (first
        | (go_at_call 39; (with_reducible refine HPk.out.mono ?_); rintro e w1 ⟨rfl, nq, hw1⟩; have HR1 : Hid (Rdr R w1 A c bs p n) := Lib.hid (by rw [hw1]; exact HRr.out.drewN nq); have HK1 : Hid (Kx (Only R) w w1) := Lib.hid (by rw [hw1]; exact Kx.refl_.drewN nq); clear hw1)
        | (go_at_call 62; (with_reducible refine (fault_any _ HR1.out).mono ?_); rintro e w2 ⟨v, rfl, hs, hb⟩; have HSp := Lib.hid hs; have HB := Lib.hid hb; clear hs hb))
      go_ret2
      exact ⟨_, rfl, HSp.out, HK1.out.trans (.of_below HB.out)⟩
    · clear t1 t2 t3
      go_enter Tryz.func86, Tryz.ntmps86
      go_wp2_with (first
        | (go_at_call 39; (with_reducible refine HPk.out.mono ?_); rintro e w1 ⟨rfl, nq, hw1⟩; have HR1 : Hid (Rdr R w1 A c bs p n) := Lib.hid (by rw [hw1]; exact HRr.out.drewN nq); have HK1 : Hid (Kx (Only R) w w1) := Lib.hid (by rw [hw1]; exact Kx.refl_.drewN nq); clear hw1)
        | (go_at_call 62; (with_reducible refine (fault_any _ HR1.out).mono ?_); rintro e w2 ⟨v, rfl, hs, hb⟩; have HSp := Lib.hid hs; have HB := Lib.hid hb; clear hs hb))
      go_ret2
      exact ⟨_, rfl, HSp.out, HK1.out.trans (.of_below HB.out)⟩
    · have t4 := u8_ne (k := 125) e4 rfl
      have t5 := u8_ne (k := 124) e5 rfl
      obtain ⟨x, hx⟩ : ∃ x : Int, x = b.toNat := ⟨_, rfl⟩
      rw [← hx] at HPk t1 t2 t3 t4 t5
      clear hx e4 e5
      go_enter Tryz.func86, Tryz.ntmps86
      go_wp2_with (first
        | (go_at_call 39; (with_reducible refine HPk.out.mono ?_); rintro e w1 ⟨rfl, nq, hw1⟩; have HR1 : Hid (Rdr R w1 A c bs p n) := Lib.hid (by rw [hw1]; exact HRr.out.drewN nq); have HK1 : Hid (Kx (Only R) w w1) := Lib.hid (by rw [hw1]; exact Kx.refl_.drewN nq); clear hw1)
        | (go_at_call 62; (with_reducible refine (fault_any _ HR1.out).mono ?_); rintro e w2 ⟨v, rfl, hs, hb⟩; have HSp := Lib.hid hs; have HB := Lib.hid hb; clear hs hb))
      go_ret2
      exact ⟨_, rfl, HSp.out, HK1.out.trans (.of_below HB.out)⟩

theorem opChk_cases (depth n : Nat) (b : Int) : (Opx.flt b = true ∧ opChk depth n b = 3) ∨ (Opx.flt b = false ∧ knd b = 0 ∧ opChk depth n b = 2) ∨ (Opx.flt b = false ∧ knd b ≠ 0 ∧ 512 ≤ n ∧ opChk depth n b = 7) ∨
    (Opx.flt b = false ∧ knd b = 2 ∧ n < 512 ∧ 32 ≤ depth ∧ opChk depth n b = 7) ∨ (Opx.flt b = false ∧ knd b ≠ 0 ∧ n < 512 ∧ (knd b = 2 → depth < 32) ∧ opChk depth n b = 0) := by
  unfold opChk
  cases hf : Opx.flt b with
  | true => exact .inl ⟨rfl, by simp⟩
  | false =>
    right
    rw [if_neg (by simp)]
    by_cases h0 : knd b = 0
    · rw [if_pos h0]; exact .inl ⟨rfl, h0, rfl⟩
    rw [if_neg h0]
    by_cases h1 : 512 ≤ n
    · rw [if_pos (Or.inl h1)]; exact .inr (.inl ⟨rfl, h0, h1, rfl⟩)
    by_cases h2 : knd b = 2 ∧ 32 ≤ depth
    · rw [if_pos (Or.inr h2)]; exact .inr (.inr (.inl ⟨rfl, h2.1, by omega, h2.2, rfl⟩))
    · rw [if_neg (by omega)]; exact .inr (.inr (.inr ⟨rfl, h0, by omega, by omega, rfl⟩))
theorem knd_noneE {b : Int} (h : knd b = 0) : Opx.nm b = [] ∨ Opx.kd b = 0 := by
  unfold knd at h
  split at h
  · rename_i h1; exact .inl (List.isEmpty_iff.1 h1)
  · exact .inr h
theorem kd_pos (b : Int) : Opx.kd b ≠ 0 := by
  unfold Opx.kd
  repeat' split
  all_goals omega
end
end Go.Proofs.YtbhniddgkdldlaaGreatDoor
