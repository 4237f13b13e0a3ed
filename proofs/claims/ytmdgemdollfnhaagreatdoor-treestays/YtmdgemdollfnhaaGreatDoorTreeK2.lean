/- Contract of tree.FuncType where there is such a function. -/
import Derived.Test.YtmdgemdollfnhaaGreatDoorTreeK
import Derived.Test.YtmdgemdollfnhaaGreatDoorRegions
namespace Go.Proofs.YtmdgemdollfnhaaGreatDoor
open Go.RowKit Trx

theorem cell_other {w : World} {n m i j : Nat} (u : Value) (h : m ≠ n) : (w.setCell ⟨n, i, none⟩ u).cell? ⟨m, j, none⟩ = w.cell? ⟨m, j, none⟩ := World.cell?_of_block (Below.heap_setCell _ _ _ _ (by simpa using h))
/-- what the copying of a type leans on: the type's own cells, and the result's. -/
def FtS (w w1 : World) (t : Ty) (w' : World) : Prop := (w'.cell? ⟨w1.heap.size, 0, none⟩ = some (.slice t.p.A t.p.zs.length t.p.c) ∧ w'.cell? ⟨w1.heap.size, 1, none⟩ = some (.slice t.r.A t.r.zs.length t.r.c)) ∧
    w'.cell? ⟨w.heap.size + 1, 0, none⟩ = some (.slice none 0 0) ∧ w'.cell? ⟨w.heap.size + 1, 1, none⟩ = some (.slice none 0 0) ∧ w'.frozen? ⟨w.heap.size + 1, 0, none⟩ = false ∧ w'.frozen? ⟨w.heap.size + 1, 1, none⟩ = false
theorem FtS.keep' {w w1 wA wB : World} {t : Ty} {B : Nat} (h : FtS w w1 t wA) (hb : Below B wA wB) (h1 : w1.heap.size < B) (h2 : w.heap.size + 1 < B) : FtS w w1 t wB :=
  ⟨⟨(hb.cell (p := ⟨_, 0, none⟩) h1).trans h.1.1, (hb.cell (p := ⟨_, 1, none⟩) h1).trans h.1.2⟩, (hb.cell (p := ⟨_, 0, none⟩) h2).trans h.2.1, (hb.cell (p := ⟨_, 1, none⟩) h2).trans h.2.2.1, (hb.frozen (p := ⟨_, 0, none⟩) h2).trans h.2.2.2.1, (hb.frozen (p := ⟨_, 1, none⟩) h2).trans h.2.2.2.2⟩
theorem FtS.keep {w w1 W0 wA : World} {t : Ty} (h : FtS w w1 t W0) (hb : Below W0.drew.heap.size W0.drew wA) (hlt : w.heap.size + 1 < w1.heap.size) (hsz : W0.heap.size = w1.heap.size + 1) : FtS w w1 t wA :=
  FtS.keep' (wA := W0.drew) h hb (show w1.heap.size < W0.heap.size by omega) (show w.heap.size + 1 < W0.heap.size by omega)

set_option maxHeartbeats 8000000 in
set_option maxRecDepth 100000 in
theorem FuncType_some (m : Mo) (f : Int) (w : World) (hm : m.ok w w.heap.size) (hf : inI f) (k : Nat) (hn : ftV m f = some k) :
    ∃ t, m.ty.l[k]? = some t ∧
    Calls Tryz.prog 7 #[moA m, .int .i64 f] w fun e w' => ∃ vp vr, e = .returned (.tuple #[.agg #[vp, vr], .nilIface]) ∧ OwnK w.heap.size w w' 3 1 vp (ones (n64s t.p.zs)) ∧ OwnK w.heap.size w w' 3 1 vr (ones (n64s t.r.zs)) ∧ (∀ g, vp.ownBlock = some g → vr.ownBlock ≠ some g) := by
  have hk : tnV m f = some (k : Int) ∧ k < m.ty.l.length := by
    unfold ftV at hn
    split at hn
    · split at hn
      · rename_i t ht h
        injection hn with hn
        refine ⟨by rw [ht, ← hn]; congr 1; omega, by omega⟩
      · cases hn
    · cases hn
  obtain ⟨b, o, t, hA, hx, hb, hok, hcell⟩ := hm.ty.at_ hk.2
  refine ⟨t, hx, ?_⟩
  have q0 := hcell 0 (by omega)
  have q1 := hcell 1 (by omega)
  simp only [Ty.cells, Nat.add_zero, List.getElem?_cons_zero, List.getElem?_cons_succ, IL.v] at q0 q1
  have HQ0 := Lib.hid q0
  have HQ1 := Lib.hid q1
  have HT := Lib.hid (fun w' (h : Below w.heap.size w w') => typeNumber_any m f w' (hm.below h) hf)
  have HCp := Lib.hid (fun w' (h : Below w.heap.size w w') => copied_any t.p w' ((hok.keep h.size (Below.kp h)).p))
  have HCr := Lib.hid (fun w' (h : Below w.heap.size w w') => copied_any t.r w' ((hok.keep h.size (Below.kp h)).r))
  have HP := Lib.hid isPlaceTy_any
  have tq : isPl (k : Int) m.ty.l.length = true := by simp [isPl]; omega
  have hkl := hk.2
  have hlp := hok.p.le
  have hlr := hok.r.le
  have hcy := hm.ty.c
  have hly := hm.ty.le
  rw [hk.1] at HT
  simp only [Option.getD_some, Option.isSome_some] at HT
  unfold maxLen at hcy
  unfold moA at *
  rw [hA] at HT ⊢
  clear hm hf hn hk hok hcell q0 q1 hx hA
  go_enter Tryz.func7, Tryz.ntmps7
  go_wp2_with (first
    | (go_at_call 16; refine (HT.out _ (((Below.refl _ _).alloc (Nat.le_refl _) _).alloc (by simp) _)).mono ?_; rintro e w1 ⟨rfl, hb1⟩; obtain ⟨hlt, b0, c0, c1, fr, hw⟩ := elevenC hb1; have q0 := (hw.cell (p := ⟨b, _, none⟩) hb).trans HQ0.out; have q1 := (hw.cell (p := ⟨b, _, none⟩) hb).trans HQ1.out; have hb' := Nat.lt_of_lt_of_le hb hw.size; have HB := Lib.hid hw; clear hb1 hw)
    | (go_at_call 17; refine (HP.out _ _ _ _ _).mono ?_; rw [tq]; rintro e w2 ⟨rfl, rfl⟩))
  have hW0 := HB.out.alloc HB.out.size (.cells #[.slice t.p.A t.p.zs.length t.p.c, .slice t.r.A t.r.zs.length t.r.c] 38)
  have HW0 := Lib.hid hW0
  have d0 : (w1.alloc (.cells #[.slice t.p.A t.p.zs.length t.p.c, .slice t.r.A t.r.zs.length t.r.c] 38)).cell? ⟨w.heap.size + 1, 0, none⟩ = some (.slice none 0 0) := by rw [World.cell?_alloc_past _ _ _ (by omega)]; exact c0
  have d1 : (w1.alloc (.cells #[.slice t.p.A t.p.zs.length t.p.c, .slice t.r.A t.r.zs.length t.r.c] 38)).cell? ⟨w.heap.size + 1, 1, none⟩ = some (.slice none 0 0) := by rw [World.cell?_alloc_past _ _ _ (by omega)]; exact c1
  have hS0 : FtS w w1 t (w1.alloc (.cells #[.slice t.p.A t.p.zs.length t.p.c, .slice t.r.A t.r.zs.length t.r.c] 38)) :=
    ⟨⟨World.cell?_alloc_at _ _ _ _ rfl, World.cell?_alloc_at _ _ _ _ rfl⟩, d0, d1, (((Below.refl _ _).alloc (Nat.le_refl _) _).frozen (p := ⟨_, 0, none⟩) (by simp; omega)).trans (fr 0), (((Below.refl _ _).alloc (Nat.le_refl _) _).frozen (p := ⟨_, 1, none⟩) (by simp; omega)).trans (fr 1)⟩
  clear d0 d1 hW0
  obtain ⟨W0, hW0, hsz⟩ : ∃ W0, W0 = w1.alloc (.cells #[.slice t.p.A t.p.zs.length t.p.c, .slice t.r.A t.r.zs.length t.r.c] 38) ∧ W0.heap.size = w1.heap.size + 1 := ⟨_, rfl, by simp⟩
  rw [← hW0] at HW0 hS0 ⊢
  clear hW0
  refine wp_region_held_drew (S := fun w' => w'.cell? ⟨w1.heap.size, 0, none⟩ = some (.slice t.p.A t.p.zs.length t.p.c) ∧ w'.cell? ⟨w1.heap.size, 1, none⟩ = some (.slice t.r.A t.r.zs.length t.r.c)) (by kernel_rfl) hS0.1 (fun hHeld => ?_)
  refine region_take 0 (some 31) (v := ?_) rfl rfl (by kernel_rfl) (by kernel_rfl) (by kernel_rfl) (fun _ _ _ h => h) (by rfl) ?_ (by assumption) ?_
  rotate_left
  · (intro w hSw; (try dsimp only at hSw); go_simp; try with_reducible rfl)
  try simp only [Act.put, List.setIfInBounds_toArray, List.set_cons_zero, List.set_cons_succ]
  refine region_take 1 (some 32) (v := ?_) rfl rfl (by kernel_rfl) (by kernel_rfl) (by kernel_rfl) (fun _ _ _ h => h) (by rfl) ?_ (by assumption) ?_
  rotate_left
  · (intro w hSw; (try dsimp only at hSw); go_simp; try with_reducible rfl)
  try simp only [Act.put, List.setIfInBounds_toArray, List.set_cons_zero, List.set_cons_succ]
  refine region_take 3 (some 34) (v := ?_) rfl rfl (by kernel_rfl) (by kernel_rfl) (by kernel_rfl) (fun _ _ _ h => h) (by rfl) ?_ (by assumption) ?_
  rotate_left
  · (intro w hSw; (try dsimp only at hSw); go_simp; try with_reducible rfl)
  try simp only [Act.put, List.setIfInBounds_toArray, List.set_cons_zero, List.set_cons_succ]
  refine region_take 4 (some 35) (v := ?_) rfl rfl (by kernel_rfl) (by kernel_rfl) (by kernel_rfl) (fun _ _ _ h => h) (by rfl) ?_ (by assumption) ?_
  rotate_left
  · (intro w hSw; (try dsimp only at hSw); go_simp; try with_reducible rfl)
  try simp only [Act.put, List.setIfInBounds_toArray, List.set_cons_zero, List.set_cons_succ]
  refine wpAnyH_ready (rs := [2]) (by kernel_rfl) (by simp) ?_
  refine AllReadyH.cons rfl (fun K hK => ?_) AllReadyH.nil
  go_simp
  refine (HCp.out _ HW0.out.drew).mono ?_
  rintro e wA ⟨vp, rfl, hoA⟩
  have hSA := hS0.keep hoA.below hlt hsz
  have HA := Lib.hid hoA
  go_wp2_with fail
  refine hK.out _ _ hSA.1 (fun hHeld => ?_)
  clear hK K
  try simp only [Act.put, List.setIfInBounds_toArray, List.set_cons_zero, List.set_cons_succ]
  refine wpAnyH_ready (rs := [5]) (by kernel_rfl) (by simp) ?_
  refine AllReadyH.cons rfl (fun K hK => ?_) AllReadyH.nil
  go_simp
  refine (HCr.out _ (HW0.out.drew.trans (HA.out.below.mono HW0.out.size))).mono ?_
  rintro e wB ⟨vr, rfl, hoB⟩
  have hAle : W0.heap.size ≤ wA.heap.size := HA.out.le
  have hSB := hSA.keep' hoB.below (by omega) (by omega)
  have HB2 := Lib.hid hoB
  go_wp2_with fail
  refine hK.out _ _ hSB.1 (fun hHeld => ?_)
  clear hK K
  try simp only [Act.put, List.setIfInBounds_toArray, List.set_cons_zero, List.set_cons_succ]
  obtain ⟨Ap, cp, hvp, -, -, -⟩ := HA.out.form
  obtain ⟨Ar, cr, hvr, -, -, -⟩ := HB2.out.form
  subst hvp hvr
  refine region_take 6 (some 37) (v := ?_) rfl rfl (by kernel_rfl) (by kernel_rfl) (by kernel_rfl) (fun _ _ _ h => h) (by rfl) ?_ (by assumption) ?_
  rotate_left
  · (intro w hSw; (try dsimp only at hSw); go_simp; try with_reducible rfl)
  try simp only [Act.put, List.setIfInBounds_toArray, List.set_cons_zero, List.set_cons_succ]
  obtain ⟨⟨g0, g1⟩, e0, e1, f0, f1⟩ := hSB
  refine wpAnyH_ready (rs := [7]) (by kernel_rfl) (by simp) ?_
  refine AllReadyH.cons rfl (fun K hK => ?_) AllReadyH.nil
  go_simp
  have n0 : (⟨w1.heap.size, 0, none⟩ : Addr).block ≠ w.heap.size + 1 := by simp; omega
  refine hK.out _ _ ⟨(cell_other _ (by omega)).trans ((cell_other _ (by omega)).trans g0), (cell_other _ (by omega)).trans ((cell_other _ (by omega)).trans g1)⟩ (fun hHeld => ?_)
  clear hK K
  try simp only [Act.put, List.setIfInBounds_toArray, List.set_cons_zero, List.set_cons_succ]
  refine region_take 8 (some 5) (v := ?_) rfl rfl (by kernel_rfl) (by kernel_rfl) (by kernel_rfl) (fun _ _ _ h => h) (by rfl) ?_ (by assumption) ?_
  rotate_left
  · (intro w hSw; (try dsimp only at hSw); go_simp; try with_reducible rfl)
  try simp only [Act.put, List.setIfInBounds_toArray, List.set_cons_zero, List.set_cons_succ]
  refine wpAnyH_done (by kernel_rfl) ?_ _
  go_wp2_with fail
  have oA : OwnK W0.drew.heap.size W0.drew wA 3 1 (.slice Ap t.p.zs.length cp) (ones (n64s t.p.zs)) := by have := HA.out; simpa using this
  have oB : OwnK wA.heap.size wA wB 3 1 (.slice Ar t.r.zs.length cr) (ones (n64s t.r.zs)) := by have := HB2.out; simpa using this
  have pA := (oA.later oB.below).base (show w.heap.size ≤ W0.drew.heap.size from HW0.out.size) HW0.out.drew
  have pB := oB.base (show w.heap.size ≤ wA.heap.size from Nat.le_trans HW0.out.size hAle) (HW0.out.drew.trans (oA.below.mono HW0.out.size))
  have nA : (Value.slice Ap t.p.zs.length cp).ownBlock ≠ some (w.heap.size + 1) := fun e => by have h := (oA.own_lt e).1; have h' : W0.heap.size ≤ w.heap.size + 1 := h; omega
  have nB : (Value.slice Ar t.r.zs.length cr).ownBlock ≠ some (w.heap.size + 1) := fun e => by have h := (oB.own_lt e).1; omega
  refine bodyPost_ret (v := .tuple #[.agg #[.slice Ap t.p.zs.length cp, .slice Ar t.r.zs.length cr], .nilIface]) (by simp [results, Tryz.results7, go_sem, e0, e1]) rfl ⟨_, _, rfl, (pA.setOther (by omega) nA _ _).setOther (by omega) nA _ _, (pB.setOther (by omega) nB _ _).setOther (by omega) nB _ _, fun g h1 h2 => ?_⟩
  have h3 := (oA.own_lt h1).2
  have h4 := (oB.own_lt h2).1
  omega
end Go.Proofs.YtmdgemdollfnhaaGreatDoor
