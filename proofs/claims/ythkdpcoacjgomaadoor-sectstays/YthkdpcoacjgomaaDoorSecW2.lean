/- The walk of SectSplits: it returns true, whatever the input; nothing that was there changes. -/
import Derived.Test.YthkdpcoacjgomaaDoorSecG
import Derived.Test.YthkdpcoacjgomaaDoorSecI
set_option linter.unusedVariables false
set_option linter.unusedSimpArgs false
namespace Go.Proofs.YthkdpcoacjgomaaDoor
open Go.RowKit Trx

theorem Sect.spl_err : ∀ (N : Nat) (l : List UInt8) (p : Nat) (hi : Int) (n : Nat) (e : Nat × Nat), l.length ≤ N → Sect.spl l p hi n = .error e → e.1 ≠ 0
  | _, [], p, hi, n, e, _, h => by rw [Sect.spl_nil] at h; cases h
  | 0, _ :: _, _, _, _, _, hl, _ => by simp at hl
  | N + 1, x :: r, p, hi, n, e, hl, h => by
    rw [Sect.spl_cons] at h
    split at h
    · injection h with h; subst h; simp
    split at h
    · injection h with h; subst h; simp
    split at h
    · injection h with h; subst h; simp
    rename_i k j hu
    split at h
    · injection h with h; subst h; simp
    cases hs : Sect.spl (r.drop (j + k)) (p + 1 + j + k) (max hi x.toNat) (n + 1) with
    | error e' =>
      rw [hs] at h
      injection h with h
      subst h
      exact spl_err N _ _ _ _ _ (by simp at hl ⊢; omega) hs
    | ok u => rw [hs] at h; cases h
theorem Sect.split_err (bs : List UInt8) (e : Nat × Nat) (h : Sect.split bs = .error e) : e.1 ≠ 0 := by
  unfold Sect.split at h
  split at h
  · exact Sect.spl_err _ _ _ _ _ _ (Nat.le_refl _) h
  · injection h with h; subst h; simp
theorem keys_of {la : List Sc} {t : List Sect.Pt} (h : la.map Sc.tr = t.map ptr) : la.map Sc.key = t.map Sect.Pt.key := by
  have := congrArg (List.map fun q : Int × Int × List UInt8 => (q.1, q.2.2)) h
  rw [List.map_map, List.map_map] at this
  exact this
theorem Sect.split_ok (bs : List UInt8) (t : List Sect.Pt) (h : Sect.split bs = .ok t) : bs.take 8 = Sect.magic ∧ Sect.rise 0 (t.map (·.id)) = true ∧ t.length ≤ 128 ∧ 8 + (Sect.encL (t.map Sect.Pt.key)).length ≤ bs.length ∧ ∀ s ∈ t, s.bs.length ≤ bs.length := by
  unfold Sect.split at h
  split at h
  · rename_i hm
    obtain ⟨h1, h2, h3, h4⟩ := Sect.spl_ok _ _ _ _ _ _ (Nat.le_refl _) h (by omega)
    have h8 : 8 ≤ bs.length := by have := congrArg List.length hm; simp [Sect.magic] at this; omega
    rw [List.length_drop] at h3
    refine ⟨hm, h1, by omega, by omega, fun s hs => ?_⟩
    have := (h4 s hs).1
    rw [List.length_drop] at this
    omega
  · cases h
theorem NewSecs.now {S : Nat → Prop} {w : World} {A : Option Addr} {l : List Sc} (h : NewSecs S w A l) : SecsAt w w.heap.size A l := h w Agr.refl_

set_option maxHeartbeats 8000000 in
set_option maxRecDepth 100000 in
theorem walk_SectSplits (A : Option Addr) (c : Nat) (bs : List UInt8) (w : World) (hs : Sl w w.heap.size A (u8s bs)) (hc : bs.length ≤ c) (hm : c ≤ maxLen) (hE : Et w) :
    Calls Tryd.prog 3 #[.slice A bs.length c] w fun e w' => e = .returned (.bool true) ∧ Below w.heap.size w w' := by
  have HU := Lib.hid (up_any w hE)
  by_cases hbig : (3000 : Int) < bs.length
  · clear hs hE
    go_enter Tryd.func3, Tryd.ntmps3
    go_wp2_with (first | (go_at_call 8; (with_reducible refine HU.out.mono ?_); rintro e w1 ⟨rfl, hb1⟩; have HB1 := Lib.hid hb1; clear hb1))
    go_ret
    exact ⟨rfl, HB1.out⟩
  have hns : (bs.length : Int) ≤ 3000 := by omega
  have HG := Lib.hid (fun w' (h : Below w.heap.size w w') => Split_any A c bs w' ((hs.below h).more h.size) hc hm (by omega))
  have HX := Lib.hid (fun w' (h : Below w.heap.size w w') => RSplit_any A c bs w' ((hs.below h).more h.size) hc hm (by omega))
  have HEt := Lib.hid (fun w' (h : Below w.heap.size w w') => hE.below h)
  clear hs hE
  cases hr : Sect.split bs with
  | error er =>
    have hk := Sect.split_err bs er hr
    obtain ⟨k, p⟩ := er
    rw [hr] at HG HX
    unfold SplitR at HG
    unfold RefR at HX
    dsimp only at HG HX hk
    have tb : ((k : Int) != 0) = true := by simp; omega
    clear hr hk
    go_enter Tryd.func3, Tryd.ntmps3
    go_wp2_with (first
      | (go_at_call 8; (with_reducible refine HU.out.mono ?_); rintro e w1 ⟨rfl, hb1⟩; have HB1 := Lib.hid hb1; clear hb1)
      | (go_at_call 9; (with_reducible refine (HG.out _ HB1.out).mono ?_); rintro e w2 ⟨v, rfl, hs2, hb2⟩; have HS2 := Lib.hid hs2; have HB2 := Lib.hid (HB1.out.trans (hb2.mono HB1.out.size)); clear hs2 hb2)
      | (go_at_call 10; (with_reducible refine (HX.out _ HB2.out).mono ?_); rintro e w3 ⟨rfl, hb3⟩; have HB3 := Lib.hid (HB2.out.trans (hb3.mono HB2.out.size)); have HT := Lib.hid (told_any v p k w3 (HEt.out _ HB3.out) (HS2.out.below hb3)); clear hb3)
      | (go_at_call 11; (with_reducible refine HT.out.mono ?_); rintro e w4 ⟨rfl, hb4⟩; have HB4 := Lib.hid (HB3.out.trans (hb4.mono HB3.out.size)); clear hb4))
    go_ret
    exact ⟨rfl, HB4.out⟩
  | ok t =>
    rw [hr] at HG HX
    unfold SplitR at HG
    unfold RefR at HX
    dsimp only at HG HX
    have hcnt := (Sect.split_ok bs t hr).2.2.1
    clear hr
    go_enter Tryd.func3, Tryd.ntmps3
    go_wp2_with (first
      | (go_at_call 8; (with_reducible refine HU.out.mono ?_); rintro e w1 ⟨rfl, hb1⟩; have HB1 := Lib.hid hb1; clear hb1))
    with_reducible refine (HG.out _ HB1.out).mono ?_
    rintro e w2 ⟨A2, l2, c2, rfl, ht2, hl2, hm2, hn2, hb2⟩
    have HN2 := Lib.hid hn2
    have HT2 := Lib.hid ht2
    have HB2 := Lib.hid (HB1.out.trans (hb2.mono HB1.out.size))
    clear ht2 hn2 hb2
    go_wp2_with fail
    with_reducible refine (HX.out _ HB2.out).mono ?_
    rintro e w3 ⟨A3, l3, c3, rfl, ht3, hl3, hm3, hn3, hb3⟩
    have hl23 : l2.length = l3.length := by have := congrArg List.length (HT2.out.trans ht3.symm); simpa using this
    have hbd : l2.length ≤ 10000000 := by have := congrArg List.length HT2.out; rw [List.length_map, List.length_map] at this; omega
    have HSm := Lib.hid (Same_same l2 l3 A2 A3 c2 c3 w3 (HN2.out.now.later hb3) hn3.now ((keys_of HT2.out).trans (keys_of ht3).symm) hbd _ rfl)
    have HA2 := Lib.hid (HN2.out.now.later hb3)
    have HA3 := Lib.hid hn3.now
    have HTT := Lib.hid (HT2.out.trans ht3.symm)
    have HL := Lib.hid hl23
    have HB3 := Lib.hid (HB2.out.trans (hb3.mono HB2.out.size))
    clear ht3 hn3 hb3 hl23
    go_wp2_with (first | (go_at_call 12; (with_reducible refine HSm.out.mono ?_); rintro e w4 ⟨rfl, hb4⟩; have HC2 := Lib.hid (HA2.out.later hb4); have HC3 := Lib.hid (HA3.out.later hb4); have HB4 := Lib.hid (HB3.out.trans (hb4.mono HB3.out.size)); clear hb4))
    go_loopw [9] (fun i wr => ∃ (j n : Nat), j ≤ l2.length ∧ i = .int .i64 j ∧ wr = w4.drewN n) (fun i _ => l2.length - (intOf i).toNat)
    case atStart => exact ⟨0, 0, by omega, rfl, rfl⟩
    case round =>
      obtain ⟨j, n, hj, rfl, rfl⟩ := hrel
      by_cases hlt : j < l2.length
      · obtain ⟨b1, o1, rfl, hb1, p0, p1, p2, ok1⟩ := HC2.out.at_ hlt
        have hlt3 : j < l3.length := by have := HL.out; omega
        obtain ⟨b2, o2, rfl, hb2, q0, q1, q2, ok2⟩ := HC3.out.at_ hlt3
        have hat : l3[j].at_ = l2[j].at_ := by
          have := congrArg (fun l => l[j]?) HTT.out
          simp only [List.getElem?_map, List.getElem?_eq_getElem hlt, List.getElem?_eq_getElem hlt3, Option.map_some, Option.some.injEq] at this
          exact (congrArg (fun q => q.2.1) this).symm
        rw [hat] at q1
        obtain ⟨z, hz⟩ : ∃ z, l2[j].at_ = z := ⟨_, rfl⟩
        rw [hz] at p1 q1
        have tz : (z != z) = false := by simp
        obtain ⟨w0, hw0⟩ : ∃ w0, w0 = w4.drewN n := ⟨_, rfl⟩
        have r1 : w0.cell? ⟨b1, o1 + j * 3 + 1, none⟩ = some (.int .i64 z) := by rw [hw0]; exact p1
        have r2 : w0.cell? ⟨b2, o2 + j * 3 + 1, none⟩ = some (.int .i64 z) := by rw [hw0]; exact q1
        have hb1' : b1 < w0.heap.size := by rw [hw0]; exact hb1
        have hb2' : b2 < w0.heap.size := by rw [hw0]; exact hb2
        rw [← hw0]
        have HW := Lib.hid hw0
        clear hw0 p0 p1 p2 q0 q1 q2 ok1 ok2 hat hz
        go_wp2_with fail
        go_region_held3 (fun w' => w'.cell? ⟨b1, o1 + j * 3 + 1, none⟩ = some (.int .i64 z) ∧ w'.cell? ⟨b2, o2 + j * 3 + 1, none⟩ = some (.int .i64 z)) (first | exact ⟨r1, r2⟩) (fail)
        go_wp2_with fail
        go_roundw
        case rel => exact ⟨j + 1, n + 1, by omega, by go_num, by rw [HW.out]; exact World.drewN_drewN w4 n 1⟩
        case measure => simp [intOf]; omega
      · go_wp2_with fail
        go_ret
        exact ⟨rfl, below_drewN HB4.out n⟩
end Go.Proofs.YthkdpcoacjgomaaDoor
