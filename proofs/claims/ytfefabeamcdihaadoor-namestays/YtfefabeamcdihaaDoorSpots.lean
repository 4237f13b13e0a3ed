/- What grommetlaw00 asks of errors: Is (of a Spot), by its contract; a world that keeps what is below keeps errorType and Spots. Plain definitions and lemmas, no condition. -/
import Derived.Test.YtfefabeamcdihaaDoorAsIs
namespace Go.Proofs.YtfefabeamcdihaaDoor
open Go.RowKit Go.Extern.Stop Go.Stop Go.Extern

theorem Et.below {w w' : World} (h : Et w) (hb : Below w.heap.size w w') : Et w' := (hb.cell (p := ⟨0, 0, none⟩) (World.block_lt_of_cell? _ _ h)).trans h
theorem Et.lt {w : World} (h : Et w) : 0 < w.heap.size := World.block_lt_of_cell? _ _ h

/-- v is a Spot at this place, with this Code. -/
def SpotIs (w : World) (v : Value) (at_ code : Int) : Prop :=
  ∃ b o, v = .iface 45 (.pointer (some ⟨b, o, none⟩)) ∧ w.cell? ⟨b, o, none⟩ = some (.int .i64 at_) ∧ w.cell? ⟨b, o + 1, none⟩ = some (.iface 33 (.int .i64 code))
theorem SpotIs.below {w w' : World} {v : Value} {a c : Int} (h : SpotIs w v a c) (hb : Below w.heap.size w w') : SpotIs w' v a c := by
  obtain ⟨b, o, rfl, h1, h2⟩ := h
  have hl := World.block_lt_of_cell? _ _ h1
  exact ⟨b, o, rfl, (hb.cell (p := ⟨b, o, none⟩) hl).trans h1, (hb.cell (p := ⟨b, o + 1, none⟩) hl).trans h2⟩
/-- a Spot that was just made. -/
theorem SpotIs.new (w : World) (a c : Int) (t : TypeId) : SpotIs (w.alloc (.cells #[.int .i64 a, .iface 33 (.int .i64 c)] t)) (.iface 45 (.pointer (some ⟨w.heap.size, 0, none⟩))) a c := by
  refine ⟨w.heap.size, 0, rfl, ?_, ?_⟩
  · have := cell_of_row (w.alloc (.cells #[.int .i64 a, .iface 33 (.int .i64 c)] t)) w.heap.size 0 _ t (0, 0) (heap_alloc_new w _)
    rw [this]; rfl
  · have := cell_of_row (w.alloc (.cells #[.int .i64 a, .iface 33 (.int .i64 c)] t)) w.heap.size 1 _ t (0, 0) (heap_alloc_new w _)
    rw [this]; rfl

theorem spot_info : (Tryd.prog.info? 45).map (fun i => i.comparable) = some true := by kernel_rfl
theorem spot_size : (Tryd.prog.info? 47).isSome = true := by kernel_rfl
theorem run_neq_spot (w : World) (a : Addr) : (binOp .neq 26 (.iface 45 (.pointer (some a))) (.iface 45 (.pointer (some a)))).run Tryd.prog w = .ok (.bool false) w := by
  obtain ⟨i, hi, hc⟩ := Option.map_eq_some_iff.1 spot_info
  obtain ⟨j, hj⟩ := Option.isSome_iff_exists.1 spot_size
  simp only [binOp]
  simp [Op.equal, Op.maxDepth, run_equalIn_iface_ptr_same w 9998 a Tryd.underlying26 Tryd.underlying45 hi hc hj]

/-- as_hit, in the words that a caller needs: the target's variable is the newest block. -/
theorem as_new (e : Addr) (w0 : World) (hg : Et w0) :
    Calls Tryd.prog 19 #[.iface 45 (.pointer (some e)), .iface 50 (.pointer (some ⟨w0.heap.size, 0, none⟩))] (w0.alloc (.cells #[.pointer none] 45))
      fun ev w' => ev = .returned (.bool true) ∧ Below w0.heap.size w0 w' ∧ w'.cell? ⟨w0.heap.size, 0, none⟩ = some (.pointer (some e)) := by
  have hb : Below w0.heap.size w0 (w0.alloc (.cells #[.pointer none] 45)) := (Below.refl _ _).alloc (Nat.le_refl _) _
  refine (as_hit e ⟨w0.heap.size, 0, none⟩ (.pointer none) _ (hg.below hb) (by simp) (by simp)).mono ?_
  rintro ev w' ⟨rfl, rfl⟩
  refine ⟨rfl, ?_, ?_⟩
  · refine Below.setCell (p := ⟨w0.heap.size, 0, none⟩) ?_ (Nat.le_refl _) _
    refine Below.alloc ?_ (by simp; omega) _
    refine Below.alloc ?_ (by simp; omega) _
    refine Below.alloc ?_ (by simp; omega) _
    exact Below.alloc hb (by simp) _
  · refine World.cell?_setCell_same _ _ _ (u := .pointer none) ?_
    · rw [World.cell?_alloc_lt _ _ _ (by simp; omega), World.cell?_alloc_lt _ _ _ (by simp; omega), World.cell?_alloc_lt _ _ _ (by simp; omega), World.cell?_alloc_lt _ _ _ (by simp)]
      simp

set_option maxHeartbeats 4000000 in
set_option maxRecDepth 100000 in
/-- grommetlaw00.Is of a Spot. -/
theorem isSpot_any (v : Value) (a c at_ code : Int) (w : World) (hg : Et w) (hs : SpotIs w v a c) :
    Calls Tryd.prog 12 #[v, .int .i64 at_, .int .i64 code] w fun e w' => e = .returned (.bool (c == code && a == at_)) ∧ Below w.heap.size w w' := by
  obtain ⟨b, o, rfl, h1, h2⟩ := hs
  have hl := World.block_lt_of_cell? _ _ h1
  have hl' : b < w.heap.size := hl
  have HA := Lib.hid (as_new ⟨b, o, none⟩ w hg)
  have hne := run_neq_spot
  have heq : ∀ w, _ := fun w => run_eql_code w c code
  have HI := Lib.hid fun w1 => is_spot b o c code w1
  obtain ⟨r, hr⟩ : ∃ r, (c == code) = r := ⟨_, rfl⟩
  rw [hr] at heq HI ⊢
  clear hr
  obtain ⟨q, hq⟩ : ∃ q, (a == at_) = q := ⟨_, rfl⟩
  rw [hq]
  cases r
  · go_enter Tryd.func12, Tryd.ntmps12
    go_wp2_with fail
    with_reducible refine HA.out.mono ?_
    rintro e w1 ⟨rfl, hb1, hc1⟩
    have k2 := (hb1.cell (p := ⟨b, o + 1, none⟩) hl).trans h2
    clear HA h1 h2
    go_wp2_with fail
    with_reducible refine (HI.out w1 k2).mono ?_
    rintro e w2 ⟨rfl, rfl⟩
    go_wp2
    go_ret
    exact ⟨rfl, hb1⟩
  · cases q
    · have hq' : ¬ a = at_ := by simpa using hq
      clear hq
      go_enter Tryd.func12, Tryd.ntmps12
      go_wp2_with fail
      with_reducible refine HA.out.mono ?_
      rintro e w1 ⟨rfl, hb1, hc1⟩
      have k1 := (hb1.cell (p := ⟨b, o, none⟩) hl).trans h1
      have k2 := (hb1.cell (p := ⟨b, o + 1, none⟩) hl).trans h2
      clear HA h1 h2
      go_wp2_with fail
      with_reducible refine (HI.out w1 k2).mono ?_
      rintro e w2 ⟨rfl, rfl⟩
      go_wp2
      go_ret
      exact ⟨rfl, hb1⟩
    · have hq' : a = at_ := by simpa using hq
      subst hq'
      clear hq
      go_enter Tryd.func12, Tryd.ntmps12
      go_wp2_with fail
      with_reducible refine HA.out.mono ?_
      rintro e w1 ⟨rfl, hb1, hc1⟩
      have k1 := (hb1.cell (p := ⟨b, o, none⟩) hl).trans h1
      have k2 := (hb1.cell (p := ⟨b, o + 1, none⟩) hl).trans h2
      clear HA h1 h2
      go_wp2_with fail
      with_reducible refine (HI.out w1 k2).mono ?_
      rintro e w2 ⟨rfl, rfl⟩
      go_wp2
      go_ret
      exact ⟨rfl, hb1⟩

end Go.Proofs.YtfefabeamcdihaaDoor
