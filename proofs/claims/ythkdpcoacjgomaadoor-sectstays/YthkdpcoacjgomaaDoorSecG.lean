/- Contract of the reference's Split. -/
import Derived.Test.YthkdpcoacjgomaaDoorSecD
import Derived.Test.YthkdpcoacjgomaaDoorSecF
import Derived.Test.YthkdpcoacjgomaaDoorLebU7
set_option linter.unusedVariables false
set_option linter.unusedSimpArgs false
namespace Go.Proofs.YthkdpcoacjgomaaDoor
open Go.RowKit Trx

/-- what the reference leaves. -/
def RefR (r : Except (Nat × Nat) (List Sect.Pt)) (w : World) : Ending → World → Prop := fun e w' => match r with
  | .error (k, p) => e = .returned (.tuple #[.slice none 0 0, .int .i64 k, .int .i64 p]) ∧ Below w.heap.size w w'
  | .ok t => ∃ A l c, e = .returned (.tuple #[.slice A (List.length l) c, .int .i64 0, .int .i64 (-1)]) ∧ l.map Sc.tr = t.map ptr ∧ l.length ≤ c ∧ c ≤ maxLen ∧ NewSecs (Win w.heap.size w') w' A l ∧ Below w.heap.size w w'
theorem own_sl {w w1 : World} {A : Option Addr} {n c : Nat} {bs : List UInt8} (h : OwB w w1 (.slice A n c) bs) : Sl w1 w1.heap.size A (u8s bs) := by
  obtain ⟨A', c', e, -, -, hr⟩ := OwnK.form h
  injection e with e1 e2 e3
  subst e1
  exact RowsAt.sl hr
theorem cut_at {w : World} {B b o : Nat} {bs : List UInt8} (h : Sl w B (some ⟨b, o, none⟩) (u8s bs)) (j k : Nat) : Sl w B (some ⟨b, o + j, none⟩) (u8s ((bs.drop j).take k)) := by
  rw [u8s_take, u8s_drop]
  refine Sl.take (fun hne => ?_) k
  have hk : j < (u8s bs).length := by
    rcases Nat.lt_or_ge j (u8s bs).length with h1 | h1
    · exact h1
    · exact absurd (List.drop_eq_nil_of_le h1) hne
  obtain ⟨b', o', e, hb, hc⟩ := h (fun e => by rw [e] at hk; simp at hk)
  injection e with e
  injection e with e1 e2
  subst e1 e2
  refine ⟨b, o + j, rfl, hb, fun i hi => ?_⟩
  rw [List.length_drop] at hi
  rw [Nat.add_assoc, hc (j + i) (by omega), List.getElem?_drop]

set_option maxHeartbeats 16000000 in
set_option maxRecDepth 100000 in
theorem RSplit_any (A : Option Addr) (c : Nat) (bs : List UInt8) (w : World) (hs : Sl w w.heap.size A (u8s bs)) (hc : bs.length ≤ c) (hm : c ≤ maxLen) (hL : bs.length ≤ 100000000) :
    Calls Tryd.prog 10 #[.slice A bs.length c] w (RefR (Sect.split bs) w) := by
  have HMg := Lib.hid (fun w' => Magic_any w')
  have HS := Lib.hid hs
  have hm' := hm
  unfold maxLen at hm'
  by_cases h8 : bs.length < 8
  · have e : Sect.split bs = .error (2, 0) := by
      unfold Sect.split
      rw [if_neg (fun e => by have := congrArg List.length e; simp [Sect.magic] at this; omega)]
    rw [e]
    unfold RefR
    have t8 : decide ((bs.length : Int) < 8) = true := by simp; omega
    clear e
    go_enter Tryd.func10, Tryd.ntmps10
    go_wp2_with (first | (go_at_call 20; (with_reducible refine (HMg.out _).mono ?_); rintro e w1 ⟨A1, c1, rfl, ho1⟩; have HO1 := Lib.hid ho1; have HB1 := Lib.hid (OwB.below ho1); clear ho1))
    refine wp_region_held_drew (S := fun _ => True) (by kernel_rfl) trivial (fun hHeld => ?_)
    refine region_take 0 (some 14) (v := ?_) rfl rfl (by kernel_rfl) (by kernel_rfl) (by kernel_rfl) (fun _ _ _ h => h) (by rfl) ?_ (by assumption) ?_
    rotate_left
    · (intro w hSw; (try dsimp only at hSw); go_simp; try with_reducible rfl)
    try simp only [Act.put, List.setIfInBounds_toArray, List.set_cons_zero, List.set_cons_succ]
    refine region_take 1 (some 15) (v := ?_) rfl rfl (by kernel_rfl) (by kernel_rfl) (by kernel_rfl) (fun _ _ _ h => h) (by rfl) ?_ (by assumption) ?_
    rotate_left
    · (intro w hSw; (try dsimp only at hSw); go_simp; try with_reducible rfl)
    try simp only [Act.put, List.setIfInBounds_toArray, List.set_cons_zero, List.set_cons_succ]
    refine region_take 2 (some 16) (v := ?_) rfl rfl (by kernel_rfl) (by kernel_rfl) (by kernel_rfl) (fun _ _ _ h => h) (by rfl) ?_ (by assumption) ?_
    rotate_left
    · (intro w hSw; (try dsimp only at hSw); go_simp; try with_reducible rfl)
    try simp only [Act.put, List.setIfInBounds_toArray, List.set_cons_zero, List.set_cons_succ]
    refine region_take 3 (some 17) (v := ?_) rfl rfl (by kernel_rfl) (by kernel_rfl) (by kernel_rfl) (fun _ _ _ h => h) (by rfl) ?_ (by assumption) ?_
    rotate_left
    · (intro w hSw; (try dsimp only at hSw); go_simp; try with_reducible rfl)
    try simp only [Act.put, List.setIfInBounds_toArray, List.set_cons_zero, List.set_cons_succ]
    refine region_skip 4 (some 18) rfl rfl (by kernel_rfl) (by kernel_rfl) (by kernel_rfl) (fun _ _ _ h => h) (by rfl) (by assumption) ?_
    try simp only [Act.put, List.setIfInBounds_toArray, List.set_cons_zero, List.set_cons_succ]
    refine region_skip 5 (some 19) rfl rfl (by kernel_rfl) (by kernel_rfl) (by kernel_rfl) (fun _ _ _ h => h) (by rfl) (by assumption) ?_
    try simp only [Act.put, List.setIfInBounds_toArray, List.set_cons_zero, List.set_cons_succ]
    refine region_skip 6 (some 20) rfl rfl (by kernel_rfl) (by kernel_rfl) (by kernel_rfl) (fun _ _ _ h => h) (by rfl) (by assumption) ?_
    try simp only [Act.put, List.setIfInBounds_toArray, List.set_cons_zero, List.set_cons_succ]
    refine region_skip 7 (some 21) rfl rfl (by kernel_rfl) (by kernel_rfl) (by kernel_rfl) (fun _ _ _ h => h) (by rfl) (by assumption) ?_
    try simp only [Act.put, List.setIfInBounds_toArray, List.set_cons_zero, List.set_cons_succ]
    refine region_skip 8 (some 22) rfl rfl (by kernel_rfl) (by kernel_rfl) (by kernel_rfl) (fun _ _ _ h => h) (by rfl) (by assumption) ?_
    try simp only [Act.put, List.setIfInBounds_toArray, List.set_cons_zero, List.set_cons_succ]
    refine region_skip 9 (some 23) rfl rfl (by kernel_rfl) (by kernel_rfl) (by kernel_rfl) (fun _ _ _ h => h) (by rfl) (by assumption) ?_
    try simp only [Act.put, List.setIfInBounds_toArray, List.set_cons_zero, List.set_cons_succ]
    refine region_take 10 (some 24) (v := ?_) rfl rfl (by kernel_rfl) (by kernel_rfl) (by kernel_rfl) (fun _ _ _ h => h) (by rfl) ?_ (by assumption) ?_
    rotate_left
    · (intro w hSw; (try dsimp only at hSw); go_simp; try with_reducible rfl)
    try simp only [Act.put, List.setIfInBounds_toArray, List.set_cons_zero, List.set_cons_succ]
    refine wpAnyH_done (by kernel_rfl) ?_ _
    go_wp2_with fail
    refine bodyPost_ret (results_tmp3 rfl _ _ _) rfl ?_
    exact ⟨rfl, below_drewN HB1.out 1⟩
  · have b8 : (8 : Int) ≤ c := by omega
    have b8' : 8 ≤ c := by omega
    have h8' : 8 ≤ bs.length := by omega
    have hs8 : Sl w w.heap.size A (u8s (bs.take 8)) := by have h := hs.take 8; rw [← u8s_take] at h; exact h
    have h88 : (bs.take 8).length = 8 := by simp; omega
    by_cases hmg : bs.take 8 = Sect.magic
    · obtain ⟨R, hR⟩ : ∃ R, Sect.split bs = R := ⟨_, rfl⟩
      have HR : Hid (Sect.spl (bs.drop 8) 8 0 0 = R) := Lib.hid (by rw [← hR]; unfold Sect.split; rw [if_pos hmg])
      rw [hR]
      obtain ⟨P, hP⟩ : ∃ P, RefR R w = P := ⟨_, rfl⟩
      rw [hP]
      have HPe := Lib.hid hP
      have HM := Lib.hid hm
      rw [hmg] at hs8
      have HS8 := Lib.hid hs8
      have t8 : decide ((bs.length : Int) < 8) = false := by simp; omega
      clear hR hmg hP hs h8 hm hs8 h88
      go_enter Tryd.func10, Tryd.ntmps10
      go_wp2_with (first | (go_at_call 20; (with_reducible refine (HMg.out _).mono ?_); rintro e w1 ⟨A1, c1, rfl, ho1⟩; have HO1 := Lib.hid ho1; have HB1 := Lib.hid (OwB.below ho1); clear ho1))
      refine wp_region_held_drew (S := fun w' => (convert 22 9 (.slice A 8 c)).run Tryd.prog w' = .ok (.string ⟨Sect.magic.toArray⟩) w' ∧ (convert 22 9 (.slice A1 8 c1)).run Tryd.prog w' = .ok (.string ⟨Sect.magic.toArray⟩) w') (by kernel_rfl)
        ⟨string_of (bs := Sect.magic) ((HS8.out.below HB1.out).drewN 1) c, string_of (bs := Sect.magic) ((own_sl HO1.out).drewN 1) c1⟩ (fun hHeld => ?_)
      refine region_take 0 (some 14) (v := ?_) rfl rfl (by kernel_rfl) (by kernel_rfl) (by kernel_rfl) (fun _ _ _ h => h) (by rfl) ?_ (by assumption) ?_
      rotate_left
      · (intro w hSw; (try dsimp only at hSw); go_simp; try with_reducible rfl)
      try simp only [Act.put, List.setIfInBounds_toArray, List.set_cons_zero, List.set_cons_succ]
      refine region_take 1 (some 15) (v := ?_) rfl rfl (by kernel_rfl) (by kernel_rfl) (by kernel_rfl) (fun _ _ _ h => h) (by rfl) ?_ (by assumption) ?_
      rotate_left
      · (intro w hSw; (try dsimp only at hSw); go_simp; try with_reducible rfl)
      try simp only [Act.put, List.setIfInBounds_toArray, List.set_cons_zero, List.set_cons_succ]
      refine region_take 2 (some 16) (v := ?_) rfl rfl (by kernel_rfl) (by kernel_rfl) (by kernel_rfl) (fun _ _ _ h => h) (by rfl) ?_ (by assumption) ?_
      rotate_left
      · (intro w hSw; (try dsimp only at hSw); go_simp; try with_reducible rfl)
      try simp only [Act.put, List.setIfInBounds_toArray, List.set_cons_zero, List.set_cons_succ]
      refine region_take 3 (some 17) (v := ?_) rfl rfl (by kernel_rfl) (by kernel_rfl) (by kernel_rfl) (fun _ _ _ h => h) (by rfl) ?_ (by assumption) ?_
      rotate_left
      · (intro w hSw; (try dsimp only at hSw); go_simp; try with_reducible rfl)
      try simp only [Act.put, List.setIfInBounds_toArray, List.set_cons_zero, List.set_cons_succ]
      refine region_take 4 (some 18) (v := ?_) rfl rfl (by kernel_rfl) (by kernel_rfl) (by kernel_rfl) (fun _ _ _ h => h) (by rfl) ?_ (by assumption) ?_
      rotate_left
      · (intro w hSw; (try dsimp only at hSw); go_simp; try with_reducible rfl)
      try simp only [Act.put, List.setIfInBounds_toArray, List.set_cons_zero, List.set_cons_succ]
      refine region_take 5 (some 19) (v := ?_) rfl rfl (by kernel_rfl) (by kernel_rfl) (by kernel_rfl) (fun _ _ _ h => h) (by rfl) ?_ (by assumption) ?_
      rotate_left
      · (intro w hSw; (try dsimp only at hSw); go_simp; try with_reducible rfl)
      try simp only [Act.put, List.setIfInBounds_toArray, List.set_cons_zero, List.set_cons_succ]
      refine region_take 6 (some 20) (v := ?_) rfl rfl (by kernel_rfl) (by kernel_rfl) (by kernel_rfl) (fun _ _ _ h => h) (by rfl) ?_ (by assumption) ?_
      rotate_left
      · (intro w hSw; (try dsimp only at hSw); go_simp; try with_reducible rfl)
      try simp only [Act.put, List.setIfInBounds_toArray, List.set_cons_zero, List.set_cons_succ]
      refine region_take 7 (some 21) (v := ?_) rfl rfl (by kernel_rfl) (by kernel_rfl) (by kernel_rfl) (fun _ _ _ h => h) (by rfl) ?_ (by assumption) ?_
      rotate_left
      · (intro w hSw; (try dsimp only at hSw); go_simp; try with_reducible rfl)
      try simp only [Act.put, List.setIfInBounds_toArray, List.set_cons_zero, List.set_cons_succ]
      refine region_take 8 (some 22) (v := ?_) rfl rfl (by kernel_rfl) (by kernel_rfl) (by kernel_rfl) (fun _ _ _ h => h) (by rfl) ?_ (by assumption) ?_
      rotate_left
      · (intro w hSw; (try dsimp only at hSw); go_simp; try with_reducible rfl)
      try simp only [Act.put, List.setIfInBounds_toArray, List.set_cons_zero, List.set_cons_succ]
      refine region_take 9 (some 23) (v := ?_) rfl rfl (by kernel_rfl) (by kernel_rfl) (by kernel_rfl) (fun _ _ _ h => h) (by rfl) ?_ (by assumption) ?_
      rotate_left
      · (intro w hSw; (try dsimp only at hSw); go_simp; try with_reducible rfl)
      try simp only [Act.put, List.setIfInBounds_toArray, List.set_cons_zero, List.set_cons_succ]
      refine region_take 10 (some 24) (v := ?_) rfl rfl (by kernel_rfl) (by kernel_rfl) (by kernel_rfl) (fun _ _ _ h => h) (by rfl) ?_ (by assumption) ?_
      rotate_left
      · (intro w hSw; (try dsimp only at hSw); go_simp; try with_reducible rfl)
      try simp only [Act.put, List.setIfInBounds_toArray, List.set_cons_zero, List.set_cons_succ]
      refine wpAnyH_done (by kernel_rfl) ?_ _
      have HBd : Hid (Below w.heap.size w w1.drew) := Lib.hid (below_drewN HB1.out 1)
      clear HO1 hHeld
      obtain ⟨w2, hw2⟩ : ∃ w2, w1.drew = w2 := ⟨_, rfl⟩
      rw [hw2] at HBd ⊢
      clear hw2
      go_wp2_with fail
      go_loopw [6, 7, 8] (fun v h a wr => SplL bs w v h a wr) (fun _ _ a _ => bs.length - (intOf a).toNat)
      case atStart => exact ⟨[], [], 0, 8, rfl, rfl, h8', by omega, by omega, by omega, Lib.hid rfl, by simp, OwnK.nil_ _ _ _ _ HBd.out HBd.out.size, by simp, Lib.hid (by rw [Sect.pre_nil]; rfl)⟩
      case round =>
        obtain ⟨acc, t, hi, p, rfl, rfl, hp, hp8, hi0, hi11, HT, hacc, ho, hnew, HE⟩ := hrel
        by_cases hlt : p < bs.length
        · obtain ⟨b, o, rfl, hbl, hcell⟩ := HS.out (fun e => by have := congrArg List.length e; rw [u8s_length, List.length_nil] at this; omega)
          have hx : wr.cell? ⟨b, o + p, none⟩ = some (.int .u8 ((bs[p]).toNat : Int)) := (ho.below.cell (p := ⟨b, o + p, none⟩) hbl).trans ((hcell p (by simpa using hlt)).trans (u8s_get bs p hlt))
          have hat := Sect.spl_at bs p hi acc.length hlt
          obtain ⟨x, hxe⟩ : ∃ x, bs[p] = x := ⟨_, rfl⟩
          rw [hxe] at hx hat
          have hxl := x.toNat_lt
          have HO := Lib.hid ho
          have HNew := Lib.hid hnew
          have HB := Lib.hid ho.below
          have hbl' := Nat.lt_of_lt_of_le hbl ho.below.size
          have hac := ho.form
          have hlen4 : ∃ A4 c4, u6 = .slice A4 acc.length c4 := by
            obtain ⟨A4, c4, e4, -⟩ := hac
            rw [List.length_map] at e4
            exact ⟨A4, c4, e4⟩
          obtain ⟨A4, c4, rfl⟩ := hlen4
          clear ho hnew hcell hac
          by_cases h11 : 11 < x.toNat
          · have hf : Sect.fol x.toNat hi = false := by simp [Sect.fol]; omega
            rw [hf, if_pos rfl] at hat
            have hRe : R = .error (2, p) := by rw [← HR.out, HE.out, hat]; rfl
            have HRe := Lib.hid hRe
            clear hat hRe hf
            go_wp2_with fail
            rw [← HPe.out, HRe.out]
            refine bodyPost_ret (results_tmp3 rfl _ _ _) rfl ?_
            exact ⟨rfl, HB.out⟩
          · by_cases hxhi : x.toNat ≠ 0 ∧ (x.toNat : Int) ≤ hi
            · have hf : Sect.fol x.toNat hi = false := by simp [Sect.fol]; omega
              rw [hf, if_pos rfl] at hat
              have hRe : R = .error (2, p) := by rw [← HR.out, HE.out, hat]; rfl
              have HRe := Lib.hid hRe
              obtain ⟨y0, y1⟩ := hxhi
              have z11 : (x.toNat : Int) ≤ 11 := by omega
              have z0 : ((x.toNat : Int) == 0) = false := by simp; omega
              have z0' : ((x.toNat : Int) != 0) = true := by simp; omega
              clear hat hRe hf
              go_wp2_with fail
              rw [← HPe.out, HRe.out]
              refine bodyPost_ret (results_tmp3 rfl _ _ _) rfl ?_
              exact ⟨rfl, HB.out⟩
            · have hf : Sect.fol x.toNat hi = true := by simp [Sect.fol]; omega
              rw [hf, if_neg (by decide)] at hat
              have z11 : (x.toNat : Int) ≤ 11 := by omega
              have hmx : (x.toNat = 0 ∧ max hi (x.toNat : Int) = hi) ∨ (x.toNat ≠ 0 ∧ hi < (x.toNat : Int) ∧ max hi (x.toNat : Int) = (x.toNat : Int)) := by omega
              clear hf
              by_cases h128 : acc.length = 128
              · rw [if_pos h128] at hat
                have hRe : R = .error (7, p) := by rw [← HR.out, HE.out, hat]; rfl
                have HRe := Lib.hid hRe
                clear hat hRe
                rcases hmx with ⟨y0, -⟩ | ⟨y0, y1, -⟩
                · have z0 : ((x.toNat : Int) == 0) = true := by simp; omega
                  have z0' : ((x.toNat : Int) != 0) = false := by simp; omega
                  go_wp2_with fail
                  rw [← HPe.out, HRe.out]
                  refine bodyPost_ret (results_tmp3 rfl _ _ _) rfl ?_
                  exact ⟨rfl, HB.out⟩
                · have z0 : ((x.toNat : Int) == 0) = false := by simp; omega
                  have z0' : ((x.toNat : Int) != 0) = true := by simp; omega
                  go_wp2_with fail
                  rw [← HPe.out, HRe.out]
                  refine bodyPost_ret (results_tmp3 rfl _ _ _) rfl ?_
                  exact ⟨rfl, HB.out⟩
              · rw [if_neg h128] at hat
                have hsl : Sl wr wr.heap.size (some ⟨b, o, none⟩) (u8s bs) := (HS.out.below HB.out).more HB.out.size
                have hread := ReadU (some ⟨b, o, none⟩) c bs ((p : Int) + 1) 32 wr _ hsl (Nat.le_refl _) hc HM.out (by omega) (by omega) (by decide) (by decide)
                rw [show ((p : Int) + 1).toNat = p + 1 by omega, show (32 : Int).toNat = 32 from rfl] at hread
                have tl : ((acc.length : Int) ≥ 128) = False := by simp; omega
                have hal : acc.length < 128 := by omega
                cases hu : Leb.uOf bs (p + 1) 32 with
                | none =>
                  rw [hu] at hat hread
                  unfold rV at hread
                  have hRe : R = .error (2, p + 1) := by rw [← HR.out, HE.out, hat]; rfl
                  have HRe := Lib.hid hRe
                  have HRead := Lib.hid hread
                  clear hat hRe hread hu tl h128
                  rcases hmx with ⟨y0, -⟩ | ⟨y0, y1, -⟩
                  · have z0 : ((x.toNat : Int) == 0) = true := by simp; omega
                    have z0' : ((x.toNat : Int) != 0) = false := by simp; omega
                    go_wp2_with fail
                    with_reducible refine HRead.out.mono ?_
                    rintro e w3 ⟨rfl, hb3⟩
                    have HB3 := Lib.hid (HB.out.trans (hb3.mono HB.out.size))
                    clear hb3
                    go_wp2_with fail
                    rw [← HPe.out, HRe.out]
                    refine bodyPost_ret (results_tmp3 rfl _ _ _) rfl ?_
                    exact ⟨rfl, HB3.out⟩
                  · have z0 : ((x.toNat : Int) == 0) = false := by simp; omega
                    have z0' : ((x.toNat : Int) != 0) = true := by simp; omega
                    go_wp2_with fail
                    with_reducible refine HRead.out.mono ?_
                    rintro e w3 ⟨rfl, hb3⟩
                    have HB3 := Lib.hid (HB.out.trans (hb3.mono HB.out.size))
                    clear hb3
                    go_wp2_with fail
                    rw [← HPe.out, HRe.out]
                    refine bodyPost_ret (results_tmp3 rfl _ _ _) rfl ?_
                    exact ⟨rfl, HB3.out⟩
                | some q =>
                  obtain ⟨k, j⟩ := q
                  rw [hu] at hat hread
                  unfold rV at hread
                  dsimp only at hat hread
                  have hj := Leb.uOf_le _ _ _ _ _ hu
                  have hk64 := Leb.uOf_lt _ _ _ _ _ hu
                  by_cases hk : bs.length - j < k
                  · rw [if_pos hk] at hat
                    have hRe : R = .error (2, p + 1) := by rw [← HR.out, HE.out, hat]; rfl
                    have HRe := Lib.hid hRe
                    have HRead := Lib.hid hread
                    have hkb : (bs.length : Int) - j < k := by omega
                    clear hat hRe hread hu tl h128
                    rcases hmx with ⟨y0, -⟩ | ⟨y0, y1, -⟩
                    · have z0 : ((x.toNat : Int) == 0) = true := by simp; omega
                      have z0' : ((x.toNat : Int) != 0) = false := by simp; omega
                      go_wp2_with fail
                      with_reducible refine HRead.out.mono ?_
                      rintro e w3 ⟨rfl, hb3⟩
                      have HB3 := Lib.hid (HB.out.trans (hb3.mono HB.out.size))
                      clear hb3
                      go_wp2_with fail
                      rw [← HPe.out, HRe.out]
                      refine bodyPost_ret (results_tmp3 rfl _ _ _) rfl ?_
                      exact ⟨rfl, HB3.out⟩
                    · have z0 : ((x.toNat : Int) == 0) = false := by simp; omega
                      have z0' : ((x.toNat : Int) != 0) = true := by simp; omega
                      go_wp2_with fail
                      with_reducible refine HRead.out.mono ?_
                      rintro e w3 ⟨rfl, hb3⟩
                      have HB3 := Lib.hid (HB.out.trans (hb3.mono HB.out.size))
                      clear hb3
                      go_wp2_with fail
                      rw [← HPe.out, HRe.out]
                      refine bodyPost_ret (results_tmp3 rfl _ _ _) rfl ?_
                      exact ⟨rfl, HB3.out⟩
                  · rw [if_neg hk] at hat
                    have hk' : k ≤ bs.length - j := by omega
                    have hkb : (k : Int) ≤ bs.length - j := by omega
                    have hjp := Sect.uOf_ge _ _ _ _ _ hu
                    obtain ⟨ys, hys⟩ : ∃ ys, (bs.drop j).take k = ys := ⟨_, rfl⟩
                    have hyl : ys.length = k := by rw [← hys]; simp; omega
                    have hcut := cut_at hsl j k
                    rw [hys] at hat hcut
                    have HAt := Lib.hid hat
                    have HYl := Lib.hid hyl
                    have HCut := Lib.hid hcut
                    have HRead := Lib.hid hread
                    have hyl' : ys.length ≤ 100000000 := by omega
                    have t1 : IntKind.i64.wrap ((j : Int) + (k : Int)) = ((j + k : Nat) : Int) := by rw [IntWalk.i64_left]; unfold wrap64; omega
                    have t2 : ((k : Int)).toNat = k := by simp
                    have hjk : j + k ≤ c := by omega
                    have hjk' : (j : Int) + k ≤ c := by omega
                    clear hat hyl hcut hread hu hk tl h128 hys
                    by_cases hcj : c = j
                    all_goals rcases hmx with ⟨y0, hme⟩ | ⟨y0, y1, hme⟩
                    · subst hcj
                      obtain rfl : k = 0 := by omega
                      have HCutN : Hid (∀ (w' : World) (A' : Option Addr), Sl w' w'.heap.size A' (u8s ys)) := Lib.hid (fun w' A' => by have e := List.eq_nil_of_length_eq_zero HYl.out; subst e; exact Sl.nil_)
                      have z0 : ((x.toNat : Int) == 0) = true := by simp; omega
                      have z0' : ((x.toNat : Int) != 0) = false := by simp; omega
                      rw [hme] at HAt
                      go_wp2_with fail
                      with_reducible refine HRead.out.mono ?_
                      rintro e w3 ⟨rfl, hb3⟩
                      have HB3r : Hid (Below wr.heap.size wr w3) := Lib.hid hb3
                      have HB3 := Lib.hid (HB.out.trans (hb3.mono HB.out.size))
                      clear hb3
                      obtain ⟨v, hv⟩ : ∃ v, v = Value.slice A4 acc.length c4 := ⟨_, rfl⟩
                      rw [← hv] at HO HNew ⊢
                      clear hv
                      go_wp2_with (first
                        | (at_builtin; refine wpl_bytes rfl (.tmp 77) (.tmp 84) rfl ys rfl (OwB.lit w3 [] (by decide) _ rfl) rfl (HCutN.out _ _) (by have := HYl.out; omega) (by rw [List.length_nil]; omega) ?_; intro v5 w5 ho5 hk5; rw [List.nil_append] at ho5; obtain ⟨A5, c5, hv5, -⟩ := OwnK.form ho5; rw [ones_length, u8s_length] at hv5; subst hv5; have HO5 := Lib.hid (OwnK.base ho5 HB3r.out.size HB3r.out); have HB5 : Hid (Below wr.heap.size wr w5) := Lib.hid (HB3r.out.trans ((OwB.below ho5).mono HB3r.out.size)); clear ho5 hk5)
                        | (at_builtin; refine wpList_pushK rfl (.tmp 74) (.tmp 87) _ rfl 40 Tryd.underlying24 elem_sec (by decide) _ _ _ rfl (HO.out.later HB5.out) rfl rfl rfl (Sc.one ⟨0, c, A5, c5, ys⟩) (by rw [List.length_map]; omega) (by rw [List.length_map]; unfold maxLen; omega) ?_; intro v6 w6 ho6 hk6 hs6; have HO6 := Lib.hid ho6; have HK6 := Lib.hid hk6; have HS6 := Lib.hid hs6; clear ho6 hk6 hs6))
                      go_roundw
                      case rel =>
                        have hyk := HYl.out
                        refine ⟨acc ++ [⟨0, c, A5, c5, ys⟩], t ++ [⟨x.toNat, c, ys⟩], hi, c + 0, rfl, by (try rw [hyk]); go_num, by omega, by omega, by omega, by omega, Lib.hid ?_, by simp; omega, by rw [List.map_append]; exact HO6.out, ?_, Lib.hid ?_⟩
                        · rw [List.map_append, List.map_append, HT.out]; simp [Sc.tr, ptr, y0]
                        · exact gather _ _ (by unfold inI; omega) (by unfold inI; omega) (fun g hg => (HO.out.own_lt hg).2) HB.out.size HNew.out HO5.out (Below.refl _ _) HK6.out HS6.out
                        · rw [HE.out, HAt.out, Sect.pre_pre, List.length_append]; rfl
                      case measure => simp [intOf]; omega
                    · subst hcj
                      obtain rfl : k = 0 := by omega
                      have HCutN : Hid (∀ (w' : World) (A' : Option Addr), Sl w' w'.heap.size A' (u8s ys)) := Lib.hid (fun w' A' => by have e := List.eq_nil_of_length_eq_zero HYl.out; subst e; exact Sl.nil_)
                      have z0 : ((x.toNat : Int) == 0) = false := by simp; omega
                      have z0' : ((x.toNat : Int) != 0) = true := by simp; omega
                      rw [hme] at HAt
                      go_wp2_with fail
                      with_reducible refine HRead.out.mono ?_
                      rintro e w3 ⟨rfl, hb3⟩
                      have HB3r : Hid (Below wr.heap.size wr w3) := Lib.hid hb3
                      have HB3 := Lib.hid (HB.out.trans (hb3.mono HB.out.size))
                      clear hb3
                      obtain ⟨v, hv⟩ : ∃ v, v = Value.slice A4 acc.length c4 := ⟨_, rfl⟩
                      rw [← hv] at HO HNew ⊢
                      clear hv
                      go_wp2_with (first
                        | (at_builtin; refine wpl_bytes rfl (.tmp 77) (.tmp 84) rfl ys rfl (OwB.lit w3 [] (by decide) _ rfl) rfl (HCutN.out _ _) (by have := HYl.out; omega) (by rw [List.length_nil]; omega) ?_; intro v5 w5 ho5 hk5; rw [List.nil_append] at ho5; obtain ⟨A5, c5, hv5, -⟩ := OwnK.form ho5; rw [ones_length, u8s_length] at hv5; subst hv5; have HO5 := Lib.hid (OwnK.base ho5 HB3r.out.size HB3r.out); have HB5 : Hid (Below wr.heap.size wr w5) := Lib.hid (HB3r.out.trans ((OwB.below ho5).mono HB3r.out.size)); clear ho5 hk5)
                        | (at_builtin; refine wpList_pushK rfl (.tmp 74) (.tmp 87) _ rfl 40 Tryd.underlying24 elem_sec (by decide) _ _ _ rfl (HO.out.later HB5.out) rfl rfl rfl (Sc.one ⟨x.toNat, c, A5, c5, ys⟩) (by rw [List.length_map]; omega) (by rw [List.length_map]; unfold maxLen; omega) ?_; intro v6 w6 ho6 hk6 hs6; have HO6 := Lib.hid ho6; have HK6 := Lib.hid hk6; have HS6 := Lib.hid hs6; clear ho6 hk6 hs6))
                      go_roundw
                      case rel =>
                        have hyk := HYl.out
                        refine ⟨acc ++ [⟨x.toNat, c, A5, c5, ys⟩], t ++ [⟨x.toNat, c, ys⟩], _, c + 0, rfl, by (try rw [hyk]); go_num, by omega, by omega, by omega, by omega, Lib.hid ?_, by simp; omega, by rw [List.map_append]; exact HO6.out, ?_, Lib.hid ?_⟩
                        · rw [List.map_append, List.map_append, HT.out]; rfl
                        · exact gather _ _ (by unfold inI; omega) (by unfold inI; omega) (fun g hg => (HO.out.own_lt hg).2) HB.out.size HNew.out HO5.out (Below.refl _ _) HK6.out HS6.out
                        · rw [HE.out, HAt.out, Sect.pre_pre, List.length_append]; rfl
                      case measure => simp [intOf]; omega
                    · have z0 : ((x.toNat : Int) == 0) = true := by simp; omega
                      have z0' : ((x.toNat : Int) != 0) = false := by simp; omega
                      rw [hme] at HAt
                      go_wp2_with fail
                      with_reducible refine HRead.out.mono ?_
                      rintro e w3 ⟨rfl, hb3⟩
                      have HB3r : Hid (Below wr.heap.size wr w3) := Lib.hid hb3
                      have HB3 := Lib.hid (HB.out.trans (hb3.mono HB.out.size))
                      clear hb3
                      obtain ⟨v, hv⟩ : ∃ v, v = Value.slice A4 acc.length c4 := ⟨_, rfl⟩
                      rw [← hv] at HO HNew ⊢
                      clear hv
                      go_wp2_with (first
                        | (at_builtin; refine wpl_bytes rfl (.tmp 77) (.tmp 84) rfl ys rfl (OwB.lit w3 [] (by decide) _ rfl) rfl (Sl.below ((HCut.out.below HB3r.out).more HB3r.out.size) ((Below.refl _ _).alloc (Nat.le_refl _) _)) (by have := HYl.out; omega) (by rw [List.length_nil]; omega) ?_; intro v5 w5 ho5 hk5; rw [List.nil_append] at ho5; obtain ⟨A5, c5, hv5, -⟩ := OwnK.form ho5; rw [ones_length, u8s_length] at hv5; subst hv5; have HO5 := Lib.hid (OwnK.base ho5 HB3r.out.size HB3r.out); have HB5 : Hid (Below wr.heap.size wr w5) := Lib.hid (HB3r.out.trans ((OwB.below ho5).mono HB3r.out.size)); clear ho5 hk5)
                        | (at_builtin; refine wpList_pushK rfl (.tmp 74) (.tmp 87) _ rfl 40 Tryd.underlying24 elem_sec (by decide) _ _ _ rfl (HO.out.later HB5.out) rfl rfl rfl (Sc.one ⟨0, j, A5, c5, ys⟩) (by rw [List.length_map]; omega) (by rw [List.length_map]; unfold maxLen; omega) ?_; intro v6 w6 ho6 hk6 hs6; have HO6 := Lib.hid ho6; have HK6 := Lib.hid hk6; have HS6 := Lib.hid hs6; clear ho6 hk6 hs6))
                      go_roundw
                      case rel =>
                        have hyk := HYl.out
                        refine ⟨acc ++ [⟨0, j, A5, c5, ys⟩], t ++ [⟨x.toNat, j, ys⟩], hi, j + k, rfl, by (try rw [hyk]); go_num, by omega, by omega, by omega, by omega, Lib.hid ?_, by simp; omega, by rw [List.map_append]; exact HO6.out, ?_, Lib.hid ?_⟩
                        · rw [List.map_append, List.map_append, HT.out]; simp [Sc.tr, ptr, y0]
                        · exact gather _ _ (by unfold inI; omega) (by unfold inI; omega) (fun g hg => (HO.out.own_lt hg).2) HB.out.size HNew.out HO5.out (Below.refl _ _) HK6.out HS6.out
                        · rw [HE.out, HAt.out, Sect.pre_pre, List.length_append]; rfl
                      case measure => simp [intOf]; omega
                    · have z0 : ((x.toNat : Int) == 0) = false := by simp; omega
                      have z0' : ((x.toNat : Int) != 0) = true := by simp; omega
                      rw [hme] at HAt
                      go_wp2_with fail
                      with_reducible refine HRead.out.mono ?_
                      rintro e w3 ⟨rfl, hb3⟩
                      have HB3r : Hid (Below wr.heap.size wr w3) := Lib.hid hb3
                      have HB3 := Lib.hid (HB.out.trans (hb3.mono HB.out.size))
                      clear hb3
                      obtain ⟨v, hv⟩ : ∃ v, v = Value.slice A4 acc.length c4 := ⟨_, rfl⟩
                      rw [← hv] at HO HNew ⊢
                      clear hv
                      go_wp2_with (first
                        | (at_builtin; refine wpl_bytes rfl (.tmp 77) (.tmp 84) rfl ys rfl (OwB.lit w3 [] (by decide) _ rfl) rfl (Sl.below ((HCut.out.below HB3r.out).more HB3r.out.size) ((Below.refl _ _).alloc (Nat.le_refl _) _)) (by have := HYl.out; omega) (by rw [List.length_nil]; omega) ?_; intro v5 w5 ho5 hk5; rw [List.nil_append] at ho5; obtain ⟨A5, c5, hv5, -⟩ := OwnK.form ho5; rw [ones_length, u8s_length] at hv5; subst hv5; have HO5 := Lib.hid (OwnK.base ho5 HB3r.out.size HB3r.out); have HB5 : Hid (Below wr.heap.size wr w5) := Lib.hid (HB3r.out.trans ((OwB.below ho5).mono HB3r.out.size)); clear ho5 hk5)
                        | (at_builtin; refine wpList_pushK rfl (.tmp 74) (.tmp 87) _ rfl 40 Tryd.underlying24 elem_sec (by decide) _ _ _ rfl (HO.out.later HB5.out) rfl rfl rfl (Sc.one ⟨x.toNat, j, A5, c5, ys⟩) (by rw [List.length_map]; omega) (by rw [List.length_map]; unfold maxLen; omega) ?_; intro v6 w6 ho6 hk6 hs6; have HO6 := Lib.hid ho6; have HK6 := Lib.hid hk6; have HS6 := Lib.hid hs6; clear ho6 hk6 hs6))
                      go_roundw
                      case rel =>
                        have hyk := HYl.out
                        refine ⟨acc ++ [⟨x.toNat, j, A5, c5, ys⟩], t ++ [⟨x.toNat, j, ys⟩], _, j + k, rfl, by (try rw [hyk]); go_num, by omega, by omega, by omega, by omega, Lib.hid ?_, by simp; omega, by rw [List.map_append]; exact HO6.out, ?_, Lib.hid ?_⟩
                        · rw [List.map_append, List.map_append, HT.out]; rfl
                        · exact gather _ _ (by unfold inI; omega) (by unfold inI; omega) (fun g hg => (HO.out.own_lt hg).2) HB.out.size HNew.out HO5.out (Below.refl _ _) HK6.out HS6.out
                        · rw [HE.out, HAt.out, Sect.pre_pre, List.length_append]; rfl
                      case measure => simp [intOf]; omega
        · go_wp2_with fail
          have hp' : p = bs.length := by omega
          have hRt : R = .ok t := by
            rw [← HR.out, HE.out, hp', List.drop_length, Sect.spl_nil]
            simp [Sect.pre]
          obtain ⟨A', c', rfl, h1, h2, h3⟩ := secs_of_own ho hnew
          rw [← HPe.out, hRt]
          refine bodyPost_ret (results_tmp3 rfl _ _ _) rfl ?_
          exact ⟨A', acc, c', rfl, HT.out, h1, h2, h3, ho.below⟩
    · have e : Sect.split bs = .error (2, 0) := by
        unfold Sect.split
        rw [if_neg hmg]
      have t8 : decide ((bs.length : Int) < 8) = false := by simp; omega
      have tne : (bs.take 8 == Sect.magic) = false := by simpa using hmg
      have HS8 := Lib.hid hs8
      rw [e]
      unfold RefR
      clear e hmg hs8 hs hm h8
      obtain ⟨ys, hys⟩ : ∃ ys, bs.take 8 = ys := ⟨_, rfl⟩
      rw [hys] at h88 tne HS8
      clear hys
      go_enter Tryd.func10, Tryd.ntmps10
      go_wp2_with (first | (go_at_call 20; (with_reducible refine (HMg.out _).mono ?_); rintro e w1 ⟨A1, c1, rfl, ho1⟩; have HO1 := Lib.hid ho1; have HB1 := Lib.hid (OwB.below ho1); clear ho1))
      refine wp_region_held_drew (S := fun w' => (convert 22 9 (.slice A 8 c)).run Tryd.prog w' = .ok (.string ⟨ys.toArray⟩) w' ∧ (convert 22 9 (.slice A1 8 c1)).run Tryd.prog w' = .ok (.string ⟨Sect.magic.toArray⟩) w') (by kernel_rfl)
        ⟨by have h := string_of (bs := ys) ((HS8.out.below HB1.out).drewN 1) c; rw [h88] at h; exact h, string_of (bs := Sect.magic) ((own_sl HO1.out).drewN 1) c1⟩ (fun hHeld => ?_)
      refine region_take 0 (some 14) (v := ?_) rfl rfl (by kernel_rfl) (by kernel_rfl) (by kernel_rfl) (fun _ _ _ h => h) (by rfl) ?_ (by assumption) ?_
      rotate_left
      · (intro w hSw; (try dsimp only at hSw); go_simp; try with_reducible rfl)
      try simp only [Act.put, List.setIfInBounds_toArray, List.set_cons_zero, List.set_cons_succ]
      refine region_take 1 (some 15) (v := ?_) rfl rfl (by kernel_rfl) (by kernel_rfl) (by kernel_rfl) (fun _ _ _ h => h) (by rfl) ?_ (by assumption) ?_
      rotate_left
      · (intro w hSw; (try dsimp only at hSw); go_simp; try with_reducible rfl)
      try simp only [Act.put, List.setIfInBounds_toArray, List.set_cons_zero, List.set_cons_succ]
      refine region_take 2 (some 16) (v := ?_) rfl rfl (by kernel_rfl) (by kernel_rfl) (by kernel_rfl) (fun _ _ _ h => h) (by rfl) ?_ (by assumption) ?_
      rotate_left
      · (intro w hSw; (try dsimp only at hSw); go_simp; try with_reducible rfl)
      try simp only [Act.put, List.setIfInBounds_toArray, List.set_cons_zero, List.set_cons_succ]
      refine region_take 3 (some 17) (v := ?_) rfl rfl (by kernel_rfl) (by kernel_rfl) (by kernel_rfl) (fun _ _ _ h => h) (by rfl) ?_ (by assumption) ?_
      rotate_left
      · (intro w hSw; (try dsimp only at hSw); go_simp; try with_reducible rfl)
      try simp only [Act.put, List.setIfInBounds_toArray, List.set_cons_zero, List.set_cons_succ]
      refine region_take 4 (some 18) (v := ?_) rfl rfl (by kernel_rfl) (by kernel_rfl) (by kernel_rfl) (fun _ _ _ h => h) (by rfl) ?_ (by assumption) ?_
      rotate_left
      · (intro w hSw; (try dsimp only at hSw); go_simp; try with_reducible rfl)
      try simp only [Act.put, List.setIfInBounds_toArray, List.set_cons_zero, List.set_cons_succ]
      refine region_take 5 (some 19) (v := ?_) rfl rfl (by kernel_rfl) (by kernel_rfl) (by kernel_rfl) (fun _ _ _ h => h) (by rfl) ?_ (by assumption) ?_
      rotate_left
      · (intro w hSw; (try dsimp only at hSw); go_simp; try with_reducible rfl)
      try simp only [Act.put, List.setIfInBounds_toArray, List.set_cons_zero, List.set_cons_succ]
      refine region_take 6 (some 20) (v := ?_) rfl rfl (by kernel_rfl) (by kernel_rfl) (by kernel_rfl) (fun _ _ _ h => h) (by rfl) ?_ (by assumption) ?_
      rotate_left
      · (intro w hSw; (try dsimp only at hSw); go_simp; try with_reducible rfl)
      try simp only [Act.put, List.setIfInBounds_toArray, List.set_cons_zero, List.set_cons_succ]
      refine region_take 7 (some 21) (v := ?_) rfl rfl (by kernel_rfl) (by kernel_rfl) (by kernel_rfl) (fun _ _ _ h => h) (by rfl) ?_ (by assumption) ?_
      rotate_left
      · (intro w hSw; (try dsimp only at hSw); go_simp; try with_reducible rfl)
      try simp only [Act.put, List.setIfInBounds_toArray, List.set_cons_zero, List.set_cons_succ]
      refine region_take 8 (some 22) (v := ?_) rfl rfl (by kernel_rfl) (by kernel_rfl) (by kernel_rfl) (fun _ _ _ h => h) (by rfl) ?_ (by assumption) ?_
      rotate_left
      · (intro w hSw; (try dsimp only at hSw); go_simp; try with_reducible rfl)
      try simp only [Act.put, List.setIfInBounds_toArray, List.set_cons_zero, List.set_cons_succ]
      refine region_take 9 (some 23) (v := ?_) rfl rfl (by kernel_rfl) (by kernel_rfl) (by kernel_rfl) (fun _ _ _ h => h) (by rfl) ?_ (by assumption) ?_
      rotate_left
      · (intro w hSw; (try dsimp only at hSw); go_simp; try with_reducible rfl)
      try simp only [Act.put, List.setIfInBounds_toArray, List.set_cons_zero, List.set_cons_succ]
      refine region_take 10 (some 24) (v := ?_) rfl rfl (by kernel_rfl) (by kernel_rfl) (by kernel_rfl) (fun _ _ _ h => h) (by rfl) ?_ (by assumption) ?_
      rotate_left
      · (intro w hSw; (try dsimp only at hSw); go_simp; try with_reducible rfl)
      try simp only [Act.put, List.setIfInBounds_toArray, List.set_cons_zero, List.set_cons_succ]
      refine wpAnyH_done (by kernel_rfl) ?_ _
      go_wp2_with fail
      refine bodyPost_ret (results_tmp3 rfl _ _ _) rfl ?_
      exact ⟨rfl, below_drewN HB1.out 1⟩
end Go.Proofs.YthkdpcoacjgomaaDoor
