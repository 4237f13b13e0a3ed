/- 'grommetlaw05.TreeStays' returns true for every input, and each argument reads afterwards as it read before; what it lists of package-level variables is tied to the program's text: Rows.TreeStaysCardSaid. No condition. -/
import Derived.Test.YtmdgemdollfnhaaGreatDoorLaidS
import Derived.Test.YtmdgemdollfnhaaGreatDoorTreeZz
import Derived.Test.YtmdgemdollfnhaaGreatDoorCards
import Derived.Test.YtmdgemdollfnhaaGreatDoorTie
import Derived.SevenTiedAt
import Derived.Stop.Joined
namespace Go.Proofs.YtmdgemdollfnhaaGreatDoor.treeStays
open Go.ChangeShapes Go.WideShapes Go.ChangeAt Go.RowKit
open Go.ChangeMaps (open_string shut_string)

set_option maxRecDepth 100000 in
theorem lifted (os : Os) (started : os.Started) (H : Type) (enc : TypeId × Value → H) :
    ReturnsInHanded {} Tryz.checked os 3 .any (fun w args => (Rows.treeStaysSpec.pre enc Tryz.prog Tryz.f3 Rows.treeStaysRow.domain false w args ∧ laidMetH Tryz.prog Rows.treeStaysRow.laid w) ∧ sizedMet enc Tryz.prog Tryz.f3 (OpenSpec.ofChange Rows.treeStaysSpec) false w args)
      (Rows.treeStaysSpec.post enc Tryz.prog Tryz.f3 false true false false) := by
  refine handed_sized (X := fun w _ => laidMetH Tryz.prog Rows.treeStaysRow.laid w) (fun _ _ _ hh h => h.of_heap hh) own_knob started (by kernel_rfl) Tryz.func3
    (ChangeSpec.witness_shaped (enc := enc) (C := Tryz.checked) (os := os) (X := fun w _ => laidMetH Tryz.prog Rows.treeStaysRow.laid w) false (laidWorld os) #[.agg #[.slice none 0 0, .slice none 0 0, .slice none 0 0, .slice none 0 0, .slice none 0 0, .slice none 0 0, .slice none 0 0, .int .i64 0, .slice none 0 0, .slice none 0 0, .slice none 0 0], .int .i64 0] 8 (laidWorld_os os) (laidWorld_shaped os _) (by kernel_rfl) (by kernel_rfl) (by kernel_rfl) (laidWorld_met os _)) ?_
  intro W base args ds gs before ds2 gs2 before2 hval0 hW hL hsh hW2 hall
  have hval : ∀ (j : Nat) t v, Tryz.f3.params[j]? = some t → args[j]? = some v → Value.okWide Tryz.prog W .any base t v := hval0
  have hW' := hW
  obtain ⟨p, q, hA0, hV, rfl, hfz, hnd⟩ := hW
  have hA : DataW.TrodAll enc Tryz.prog W 0 (fun _ => true) true Tryz.f3.params.toList args.toList ds p := hA0
  obtain ⟨p2, q2, hA20, -, -, -, -⟩ := hW2
  have hA2 : DataW.TrodAll enc Tryz.prog W 0 (fun _ => true) true Tryz.f3.params.toList args.toList ds2 p2 := hA20
  rw [Tryz.params3] at hA2 hall
  obtain ⟨y0, ys0, e0, es0, pp0, qq0, hy0, rfl, -, g0, s20⟩ := trodAll_cons hA2
  obtain ⟨y1, ys1, e1, es1, pp1, qq1, hy1, rfl, -, g1, s21⟩ := trodAll_cons s20
  clear hA20
  rw [Tryz.params3] at hA hval
  obtain ⟨v0, vs0, d0, ds0, p0, q0, hargs, rfl, rfl, h0, r0⟩ := trodAll_cons hA
  obtain ⟨v1, vs1, d1, ds1, p1, q1, rfl, rfl, rfl, h1, r1⟩ := trodAll_cons r0
  obtain ⟨rfl, rfl, rfl⟩ := trodAll_nil r1
  obtain rfl : args = #[v0, v1] := by cases args; simp_all
  obtain ⟨hz0, hzs0⟩ := List.cons.inj (show [v0, v1] = y0 :: ys0 from hy0)
  subst hz0 hzs0
  obtain ⟨hz1, hzs1⟩ := List.cons.inj (show [v1] = y1 :: ys1 from hy1)
  subst hz1 hzs1
  obtain ⟨rfl, rfl⟩ := trodVars_none hV
  have k0 := h0
  have lt0 : ∀ x ∈ p0, x.block < W.heap.size := by obtain ⟨m, hm⟩ := k0; exact DataW.trod_lt m _ _ _ hm
  have k1 := h1
  have lt1 : ∀ x ∈ p1, x.block < W.heap.size := by obtain ⟨m, hm⟩ := k1; exact DataW.trod_lt m _ _ _ hm
  obtain ⟨cs0, rfl, -⟩ := okWide_struct Tryz.underlying32 (hval 0 32 v0 rfl rfl)
  obtain ⟨m0, hmv0, hmo0⟩ : ∃ m : Mo, cs0 = m.cells.toArray ∧ m.ok W W.heap.size := by
    obtain ⟨fuel, hf⟩ := g0
    obtain ⟨m, hc, ho⟩ := open_mo hf (lw_of hall (i := 0) (t := 32) rfl rfl)
    refine ⟨m, ?_, ho⟩
    have h1 : cs0.toList = m.cells := hc
    rw [← h1]
  subst hmv0
  obtain ⟨a1, rfl, rfl, rfl, w1⟩ := Go.ChangeShapes.open_int Tryz.underlying3 (hval 1 3 v1 rfl rfl) h1
  clear hA0 hval0
  have hstd : Nam W := std_of_laid hL hsh
  refine (walk_TreeStays m0 a1 W hmo0 w1 hstd).mono fun e W' ⟨he, bel⟩ => ?_
  subst he
  exact ⟨_, rfl, _, _, _, [], _, [], hW', trodAll_mk1 (shut_bool Tryz.underlying4 _), (trodAll_cons_mk (Below.trod laid_out (by kernel_rfl) (of_decide_eq_true (by kernel_rfl)) k0 bel lt0) (trodAll_cons_mk (Below.trod laid_out (by kernel_rfl) (of_decide_eq_true (by kernel_rfl)) k1 bel lt1) trodAll_mk0)), rfl, bel.frame _, fun h => by cases h⟩

theorem row_holds : Rows.TreeStaysSaid :=
  OpenClaim.holds_of_wide 3 Tryz.f3 rfl rfl rfl rfl rfl rfl rfl ⟨rfl, rfl, rfl, rfl, rfl⟩ rfl rfl rfl rfl rfl (by kernel_rfl) Tryz.func3 (by kernel_rfl)
    (of_decide_eq_true (by kernel_rfl)) (by unfold Func.isWrapper; first | (rw [if_pos (by decide +kernel)]; kernel_rfl) | (rw [if_neg (by decide +kernel)]; exact ⟨rfl, rfl⟩))
    (fun os started H enc _ => lifted os started H enc)

theorem proved : Rows.TreeStaysCardSaid :=
  Claim7.holds_tied_plain_at .later [] [.data, .data] true (true, "33ad4609169431b6a7f59716fe910f093142da4c30ffd8b685b95e7fd23f1b7f") false row_holds (fun _ h => by cases h) (by kernel_rfl) (fun _ h => by cases h) treeStays_row_tie rfl ⟨rfl, rfl⟩ (by kernel_rfl) rfl
    (fun f fn hf hfn => by
      obtain rfl : f = 3 := Option.some.inj ((show Tryz.prog.funcNamed "grommet/grommetlaw05.TreeStays" = some 3 by kernel_rfl).symm.trans hf) |>.symm
      obtain rfl : fn = Tryz.f3 := (Option.some.inj (Tryz.func3.symm.trans hfn)).symm
      exact ⟨by kernel_rfl, fun j t ht => by
        rw [Tryz.params3] at ht
        have hm : t ∈ [3, 32] := by
          have hm' : t ∈ ([32, 3] : List Nat) := by simpa using Array.mem_of_getElem? ht
          exact (by decide : ∀ u ∈ ([32, 3] : List Nat), u ∈ [3, 32]) t hm'
        have hall : ([3, 32].all fun u => !Tryz.prog.wantsStandIn u) = true := by kernel_rfl
        have hq := List.all_eq_true.1 hall t hm
        have hq2 : Tryz.prog.wantsStandIn t = false := by simpa using hq
        exact hq2⟩)
    (by kernel_rfl)
#print axioms proved
end Go.Proofs.YtmdgemdollfnhaaGreatDoor.treeStays
