/- Contracts of the small functions of tree that May comes to. -/
import Derived.Test.YtmdgemdollfnhaaGreatDoorTreeB
namespace Go.Proofs.YtmdgemdollfnhaaGreatDoor
open Go.RowKit Trx

set_option maxRecDepth 100000 in
theorem isNumber_any (n : Int) (w : World) (h : inI n) : Calls Tryz.prog 78 #[.int .i64 n] w fun e w' => e = .returned (.bool (num32 n)) ∧ w = w' := by
  unfold inI at h
  unfold num32
  by_cases h0 : 0 ≤ n
  · have t0 : decide (0 ≤ n) = true := by simpa using h0
    rw [t0]
    go_enter Tryz.func78, Tryz.ntmps78
    go_wp2_with fail
    go_ret
    exact ⟨by simp, rfl⟩
  · have t0 : decide (0 ≤ n) = false := by simpa using h0
    rw [t0]
    go_enter Tryz.func78, Tryz.ntmps78
    go_wp2_with fail
    go_ret
    exact ⟨by simp, rfl⟩
def isRes (t : Int) : Bool := t == 0 || t == 1 || t == 2
set_option maxRecDepth 100000 in
theorem isResult_any (t : Int) (w : World) : Calls Tryz.prog 76 #[.int .i64 t] w fun e w' => e = .returned (.bool (isRes t)) ∧ w = w' := by
  unfold isRes
  cases t0 : t == 0 <;> cases t1 : t == 1
  all_goals
    go_enter Tryz.func76, Tryz.ntmps76
    go_wp2_with fail
    go_ret
    exact ⟨by simp, rfl⟩
def bareB (a b v t : Int) (lL lb le : Nat) (he : Bool) : Bool := a == 0 && b == 0 && v == 0 && t == 0 && !he && decide (lL = 0) && decide (lb = 0) && decide (le = 0)
set_option maxHeartbeats 4000000 in
set_option maxRecDepth 100000 in
theorem isBare_any (op a b v t : Int) (AL Ab Ae : Option Addr) (lL cL lb cb le ce : Nat) (he : Bool) (w : World) :
    Calls Tryz.prog 68 #[.agg #[.int .i64 op, .int .i64 a, .int .i64 b, .int .u64 v, .int .i64 t, .slice AL lL cL, .slice Ab lb cb, .slice Ae le ce, .bool he]] w
      fun e w' => e = .returned (.bool (bareB a b v t lL lb le he)) ∧ Below w.heap.size w w' := by
  unfold bareB
  cases he
  all_goals
    go_enter Tryz.func68, Tryz.ntmps68
    go_wp2_with fail
    all_goals
      go_ret
      exact ⟨by first | (simp [*]; done) | (simp [*]; rw [Bool.eq_iff_iff]; simp <;> omega), (Below.refl _ _).alloc (Nat.le_refl _) _⟩

theorem all_snoc {α : Type} (P : α → Bool) (l : List α) (j : Nat) (a : α) (h : l[j]? = some a) (hj : (l.take j).all P = true) : (l.take (j + 1)).all P = P a := by
  rw [List.take_add_one, h, List.all_append, hj]; simp
theorem all_false {α : Type} (P : α → Bool) (l : List α) (j : Nat) (a : α) (h : l[j]? = some a) (ha : P a = false) : l.all P = false := by
  rw [List.all_eq_false]
  exact ⟨a, List.mem_of_getElem? h, by simp [ha]⟩

set_option maxHeartbeats 4000000 in
set_option maxRecDepth 100000 in
/-- all of a list of numbers, of isNumber. -/
theorem allInt_any (zs : List Int) (A : Option Addr) (c : Nat) (w : World) (hz : ∀ z ∈ zs, inI z) (hs : Sl w w.heap.size A (n64s zs)) (hm : zs.length ≤ maxLen) :
    Calls Tryz.prog 77 #[.slice A zs.length c, .func (.func 78) #[] #[]] w fun e w' => e = .returned (.bool (zs.all num32)) ∧ w = w' := by
  unfold maxLen at hm
  have HS := Lib.hid hs
  have HZ := Lib.hid hz
  clear hs hz
  go_enter Tryz.func77, Tryz.ntmps77
  go_wp2_with fail
  go_loop [9] (fun i => ∃ j : Nat, j ≤ zs.length ∧ i = .int .i64 j ∧ (zs.take j).all num32 = true) (fun i => zs.length - (intOf i).toNat)
  case atStart => exact ⟨0, by omega, rfl, by simp⟩
  case round =>
    obtain ⟨j, hj, rfl, hall⟩ := hrel
    have HA := Lib.hid hall
    clear hall
    by_cases hlt : j < zs.length
    · obtain ⟨b, o, rfl, hb, hc⟩ := HS.out (by intro e; have := congrArg List.length e; rw [n64s_length, List.length_nil] at this; omega)
      have hcj := hc j (by simpa using hlt)
      have hg : zs[j]? = some zs[j] := List.getElem?_eq_getElem hlt
      rw [show (n64s zs)[j]? = some (.int .i64 zs[j]) by simp [n64s, hg]] at hcj
      have hin := HZ.out _ (List.getElem_mem hlt)
      obtain ⟨z, hz⟩ : ∃ z, z = zs[j] := ⟨_, rfl⟩
      rw [← hz] at hcj hin hg
      have HG := Lib.hid hg
      clear hz hc hg
      cases hq : num32 z
      · have HN := Lib.hid (isNumber_any z w hin)
        rw [hq] at HN
        have HQ := Lib.hid (all_false num32 zs j z HG.out hq)
        clear hq
        go_wp2_with (go_at_call 78; refine HN.out.mono ?_; rintro e w' ⟨rfl, rfl⟩)
        go_ret
        exact ⟨by rw [HQ.out]; rfl, rfl⟩
      · have HN := Lib.hid (isNumber_any z w hin)
        rw [hq] at HN
        have HQ := Lib.hid ((all_snoc num32 zs j z HG.out HA.out).trans hq)
        clear hq
        go_wp2_with (go_at_call 78; refine HN.out.mono ?_; rintro e w' ⟨rfl, rfl⟩)
        go_round
        case rel => exact ⟨j + 1, by omega, by go_num, HQ.out⟩
        case measure => simp [intOf]; omega
    · have HT := Lib.hid (List.take_of_length_le (l := zs) (i := j) (by omega))
      go_wp2_with fail
      go_ret
      exact ⟨by rw [← HA.out, HT.out]; rfl, rfl⟩
end Go.Proofs.YtmdgemdollfnhaaGreatDoor
