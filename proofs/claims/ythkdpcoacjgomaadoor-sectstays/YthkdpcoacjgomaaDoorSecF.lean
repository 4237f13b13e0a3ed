/- Contract of the reference's Same, of two that are the same. -/
import Derived.Test.YthkdpcoacjgomaaDoorSecB
import Derived.Test.YthkdpcoacjgomaaDoorRegions
import Derived.Deep.RegionHeld3
set_option linter.unusedVariables false
set_option linter.unusedSimpArgs false
namespace Go.Proofs.YthkdpcoacjgomaaDoor
open Go.RowKit Trx

theorem bel_drewN (w : World) (n : Nat) : Below w.heap.size w (w.drewN n) := ⟨rfl, rfl, rfl, Nat.le_refl _, fun _ _ => rfl⟩

set_option maxHeartbeats 8000000 in
set_option maxRecDepth 100000 in
/-- two lists of sections that say the same. -/
theorem Same_same (la lb : List Sc) (A1 A2 : Option Addr) (c1 c2 : Nat) (w : World) (h1 : SecsAt w w.heap.size A1 la) (h2 : SecsAt w w.heap.size A2 lb) (hk : la.map Sc.key = lb.map Sc.key) (hm : la.length ≤ 10000000) (n2 : Nat) (hn2 : n2 = lb.length) :
    Calls Tryd.prog 12 #[.slice A1 la.length c1, .slice A2 n2 c2] w fun e w' => e = .returned (.bool true) ∧ Below w.heap.size w w' := by
  have hl : la.length = lb.length := by simpa using congrArg List.length hk
  have hkey : ∀ i (h : i < la.length) (h' : i < lb.length), (la[i]).key = (lb[i]).key := fun i h h' => by
    have := congrArg (fun l => l[i]?) hk
    simp only [List.getElem?_map] at this
    rw [List.getElem?_eq_getElem h, List.getElem?_eq_getElem h'] at this
    simpa using this
  rw [← hl] at hn2
  subst hn2
  have H1 := Lib.hid h1
  have H2 := Lib.hid h2
  have HK := Lib.hid hkey
  have HL := Lib.hid hl
  clear h1 h2 hk hkey hl
  go_enter Tryd.func12, Tryd.ntmps12
  go_wp2_with fail
  go_loopw [5] (fun i wr => ∃ (j n : Nat), j ≤ la.length ∧ i = .int .i64 j ∧ wr = w.drewN n) (fun i _ => la.length - (intOf i).toNat)
  case atStart => exact ⟨0, 0, by omega, rfl, rfl⟩
  case round =>
    obtain ⟨j, n, hj, rfl, rfl⟩ := hrel
    by_cases hlt : j < la.length
    · obtain ⟨b1, o1, rfl, hb1, p0, p1, p2, ok1⟩ := H1.out.at_ hlt
      obtain ⟨b2, o2, rfl, hb2, q0, q1, q2, ok2⟩ := H2.out.at_ (i := j) (by have := HL.out; omega)
      have hlt2 : j < lb.length := by have := HL.out; omega
      have hkk := HK.out j hlt hlt2
      obtain ⟨s1, hs1⟩ : ∃ s, la[j] = s := ⟨_, rfl⟩
      obtain ⟨s2, hs2⟩ : ∃ s, lb[j] = s := ⟨_, rfl⟩
      rw [hs1] at p0 p1 p2 ok1 hkk
      rw [hs2] at q0 q1 q2 ok2 hkk
      have hid : s2.id = s1.id := (congrArg Prod.fst hkk).symm
      have hbs : s2.bs = s1.bs := (congrArg Prod.snd hkk).symm
      have v1 := string_of (ok1.sl.drewN n) s1.c
      have v2 := string_of (ok2.sl.drewN n) s2.c
      rw [hid] at q0
      rw [hbs] at q2 v2
      have v1' := string_of ((ok1.sl.drewN n).drewN 1) s1.c
      have v2' := string_of ((ok2.sl.drewN n).drewN 1) s2.c
      rw [hbs] at v2'
      have tz : (s1.id != s1.id) = false := by simp
      have ts : (s1.bs == s1.bs) = true := by simp
      obtain ⟨w0, hw0⟩ : ∃ w0, w0 = w.drewN n := ⟨_, rfl⟩
      have hp0 : w0.cell? ⟨b1, o1 + j * 3, none⟩ = some (.int .i64 s1.id) := by rw [hw0]; exact p0
      have hp2 : w0.cell? ⟨b1, o1 + j * 3 + 2, none⟩ = some (.slice s1.A s1.bs.length s1.c) := by rw [hw0]; exact p2
      have hq0 : w0.cell? ⟨b2, o2 + j * 3, none⟩ = some (.int .i64 s1.id) := by rw [hw0]; exact q0
      have hq2 : w0.cell? ⟨b2, o2 + j * 3 + 2, none⟩ = some (.slice s2.A s1.bs.length s2.c) := by rw [hw0]; exact q2
      have hb1' : b1 < w0.heap.size := by rw [hw0]; exact hb1
      have hb2' : b2 < w0.heap.size := by rw [hw0]; exact hb2
      rw [← hw0] at v1 v2 v1' v2' ⊢
      have HW := Lib.hid hw0
      clear hlt2 hw0 p0 p1 p2 q0 q1 q2 ok1 ok2 hkk hs1 hs2 hid hbs
      go_wp2_with fail
      go_region_held3 (fun w' => (w'.cell? ⟨b1, o1 + j * 3, none⟩ = some (.int .i64 s1.id) ∧ w'.cell? ⟨b1, o1 + j * 3 + 2, none⟩ = some (.slice s1.A s1.bs.length s1.c)) ∧ (w'.cell? ⟨b2, o2 + j * 3, none⟩ = some (.int .i64 s1.id) ∧ w'.cell? ⟨b2, o2 + j * 3 + 2, none⟩ = some (.slice s2.A s1.bs.length s2.c)) ∧
        ((convert 22 9 (.slice s1.A s1.bs.length s1.c)).run Tryd.prog w' = .ok (.string ⟨s1.bs.toArray⟩) w' ∧ (convert 22 9 (.slice s2.A s1.bs.length s2.c)).run Tryd.prog w' = .ok (.string ⟨s1.bs.toArray⟩) w')) (first | exact ⟨⟨hp0, hp2⟩, ⟨hq0, hq2⟩, v1', v2'⟩) (fail)
      go_wp2_with fail
      go_roundw
      case rel => exact ⟨j + 1, n + 1, by omega, by go_num, by rw [HW.out]; exact World.drewN_drewN w n 1⟩
      case measure => simp [intOf]; omega
    · go_wp2_with fail
      go_ret
      exact ⟨rfl, bel_drewN _ _⟩
end Go.Proofs.YthkdpcoacjgomaaDoor
