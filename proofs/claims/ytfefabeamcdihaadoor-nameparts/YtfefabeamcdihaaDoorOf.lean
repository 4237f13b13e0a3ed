/- grommetlaw00.Code and Of by their contracts: of nil, and of a Spot that tells of a Code. -/
import Derived.Test.YtfefabeamcdihaaDoorSpots
import Derived.Deep.RegionHeld3
namespace Go.Proofs.YtfefabeamcdihaaDoor
open Go.RowKit Go.Extern.Stop Go.Stop Go.Extern

set_option maxRecDepth 100000 in
theorem code_nil (w : World) : Calls Tryd.prog 23 #[.nilIface] w fun e w' => e = .returned (.int .i64 0) ∧ w' = w := by
  go_enter Tryd.func23, Tryd.ntmps23
  go_wp2
  go_ret
  exact ⟨rfl, rfl⟩

set_option maxHeartbeats 1000000 in
set_option maxRecDepth 100000 in
theorem code_any (c : Nat) (w : World) (h1 : 1 ≤ c) (h9 : c ≤ 9) : Calls Tryd.prog 23 #[.iface 33 (.int .i64 c)] w fun e w' => e = .returned (.int .i64 c) ∧ w' = w := by
  have HQ := Lib.hid fun (k : Nat) => run_eql_code w c k
  go_enter Tryd.func23, Tryd.ntmps23
  go_wp2
  go_loop [3] (fun i => ∃ k : Nat, 1 ≤ k ∧ k ≤ c ∧ i = .int .i64 k) (fun i => c - (intOf i).toNat)
  case atStart => exact ⟨1, Nat.le_refl _, h1, rfl⟩
  case round =>
    obtain ⟨k, hk1, hk2, rfl⟩ := hrel
    have heq := HQ.out k
    have hk9 : (k : Int) ≤ 9 := by omega
    by_cases hk : k = c
    · subst hk
      rw [show ((k : Int) == (k : Int)) = true by simp] at heq
      go_wp2
      go_ret
      exact ⟨rfl, rfl⟩
    · rw [show ((c : Int) == (k : Int)) = false by simp; omega] at heq
      go_wp2
      go_round
      case rel => exact ⟨k + 1, by omega, by omega, by go_num⟩
      case measure => simp [intOf]; omega

set_option maxHeartbeats 1000000 in
set_option maxRecDepth 100000 in
/-- Of(nil). -/
theorem of_nil (w : World) : Calls Tryd.prog 16 #[.nilIface] w fun e w' => e = .returned (.tuple #[.int .i64 0, .int .i64 (-1)]) ∧ Below w.heap.size w w' := by
  go_enter Tryd.func16, Tryd.ntmps16
  go_wp2_with (first | (go_at_call 19; refine (as_nil _ _).mono ?_; rintro e w' ⟨rfl, rfl⟩) | (go_at_call 23; refine (code_nil _).mono ?_; rintro e w' ⟨rfl, rfl⟩))
  go_ret2
  exact ⟨rfl, (Below.refl _ _).alloc (Nat.le_refl _) _⟩

set_option maxHeartbeats 4000000 in
set_option maxRecDepth 100000 in
/-- Of a Spot that tells of a Code. -/
theorem of_spot (v : Value) (a : Int) (c : Nat) (w : World) (h1 : 1 ≤ c) (h9 : c ≤ 9) (hg : Et w) (hs : SpotIs w v a c) :
    Calls Tryd.prog 16 #[v] w fun e w' => e = .returned (.tuple #[.int .i64 c, .int .i64 a]) ∧ Below w.heap.size w w' := by
  obtain ⟨b, o, rfl, k1, k2⟩ := hs
  have hl := World.block_lt_of_cell? _ _ k1
  have HA := Lib.hid (as_new ⟨b, o, none⟩ w hg)
  have HC := Lib.hid fun w => code_any c w h1 h9
  clear h1 h9 hg
  go_enter Tryd.func16, Tryd.ntmps16
  go_wp2_with fail
  with_reducible refine HA.out.mono ?_
  rintro e w1 ⟨rfl, hb1, hc1⟩
  have c1 := (hb1.cell (p := ⟨b, o, none⟩) hl).trans k1
  have c2 := (hb1.cell (p := ⟨b, o + 1, none⟩) hl).trans k2
  clear HA k1 k2
  go_wp2
  go_region_held3 (fun w' => w'.cell? ⟨w.heap.size, 0, none⟩ = some (.pointer (some ⟨b, o, none⟩)) ∧ w'.cell? ⟨b, o, none⟩ = some (.int .i64 a) ∧ w'.cell? ⟨b, o + 1, none⟩ = some (.iface 33 (.int .i64 c))) (first | exact ⟨hc1, c1, c2⟩) (first | (go_at_call 23; refine (HC.out _).mono ?_; rintro e w' ⟨rfl, rfl⟩))
  all_goals
    go_wp2
    go_ret2
    exact ⟨rfl, hb1.drew⟩

end Go.Proofs.YtfefabeamcdihaaDoor
