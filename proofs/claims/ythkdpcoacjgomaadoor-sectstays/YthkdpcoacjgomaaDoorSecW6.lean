/- The walk of SectStays: it returns true, whatever the input; nothing that was there changes. -/
import Derived.Test.YthkdpcoacjgomaaDoorSecW5
set_option linter.unusedVariables false
set_option linter.unusedSimpArgs false
namespace Go.Proofs.YthkdpcoacjgomaaDoor
open Go.RowKit Trx

set_option maxHeartbeats 16000000 in
set_option maxRecDepth 100000 in
theorem walk_SectStays (A : Option Addr) (c : Nat) (l : List Sc) (Ab : Option Addr) (cb : Nat) (bs : List UInt8) (w : World) (hs : SecsAt w w.heap.size A l) (hl : l.length * 40 ≤ RB) (hsb : Sl w w.heap.size Ab (u8s bs)) (hcb : bs.length ≤ cb) (hmb : cb ≤ maxLen) (hE : Et w) :
    Calls Tryd.prog 6 #[.slice A l.length c, .slice Ab bs.length cb] w fun e w' => e = .returned (.bool true) ∧ Below w.heap.size w w' := by
  have HU := Lib.hid (up_any w hE)
  have HSm := Lib.hid (fun w' (h : Below w.heap.size w w') => small_any l A c w' (hs.later h) hl)
  have HS := Lib.hid hs
  by_cases hbig : (3000 : Int) < bs.length
  · clear hs hE
    go_enter Tryd.func6, Tryd.ntmps6
    go_wp2_with (first | (go_at_call 8; (with_reducible refine HU.out.mono ?_); rintro e w1 ⟨rfl, hb1⟩; have HB1 := Lib.hid hb1; clear hb1))
    with_reducible refine (HSm.out _ HB1.out).mono ?_
    rintro e w2 ⟨ok, rfl, hok, hw2⟩
    subst hw2
    cases ok
    all_goals
      go_wp2_with fail
      go_ret
      exact ⟨rfl, HB1.out⟩
  have hns : (bs.length : Int) ≤ 3000 := by omega
  have hns' : bs.length ≤ 3000 := by omega
  have HSb := Lib.hid hsb
  have HMb := Lib.hid hmb
  clear hs hE hsb hbig hmb
  obtain ⟨R, hR⟩ : ∃ R, Sect.split bs = R := ⟨_, rfl⟩
  have HR := Lib.hid hR
  clear hR
  go_enter Tryd.func6, Tryd.ntmps6
  go_wp2_with (first | (go_at_call 8; (with_reducible refine HU.out.mono ?_); rintro e w1 ⟨rfl, hb1⟩; have HB1 := Lib.hid hb1; clear hb1))
  with_reducible refine (HSm.out _ HB1.out).mono ?_
  rintro e w2 ⟨ok, rfl, hok, hw2⟩
  subst hw2
  cases ok
  · go_wp2_with fail
    go_ret
    exact ⟨rfl, HB1.out⟩
  obtain ⟨h1, h2⟩ := hok rfl
  have hsz := jnB_small l h1 h2
  clear hok h2
  go_wp2_with (first
    | (at_builtin; refine wpl_bytes rfl (.tmp 33) (.tmp 34) rfl bs rfl (OwB.lit w1 [] (by decide) _ rfl) rfl (HSb.out.below (HB1.out.alloc HB1.out.size _)) rfl (by rw [List.length_nil]; omega) ?_; intro v2 w2 ho2 hk2; rw [List.nil_append] at ho2; have hsz2 := hk2.size; obtain ⟨A2, c2, hv2, hl2, hm2, hr2⟩ := OwnK.form ho2; rw [ones_length, u8s_length] at hv2 hl2; subst hv2; have HO2 := Lib.hid ho2; have HR2 := Lib.hid (RowsAt.sl hr2); have HL2 := Lib.hid hl2; have HM2 := Lib.hid hm2; have HZ2 : Hid (w1.heap.size < w2.heap.size) := Lib.hid (by simp at hsz2; omega); have HB2 := Lib.hid (HB1.out.trans ((OwB.below ho2).mono HB1.out.size)); clear ho2 hk2 hr2 hl2 hm2 hsz2))
  obtain ⟨g, hg1, hg2, hgA, hgW⟩ : ∃ g, w1.heap.size ≤ g ∧ g < w2.heap.size ∧ (∀ i, i < bs.length → A2 = some ⟨g, 0, none⟩) ∧ Wrt w2 g bs.length := by
    by_cases hb : bs = []
    · refine ⟨w1.heap.size, Nat.le_refl _, HZ2.out, fun i hi => ?_, fun i hi => ?_⟩ <;> (rw [hb] at hi; exact absurd hi (by simp))
    · obtain ⟨g, c', e, -, -, hL⟩ := OwB.lies HO2.out hb
      injection e with e1 e2 e3
      exact ⟨g, hL.ge, hL.lt, fun _ _ => e1, hL.wrt⟩
  have hsp := Split_u A2 c2 bs w2 HR2.out HL2.out HM2.out (by omega)
  rw [HR.out] at hsp
  have HSp := Lib.hid hsp
  clear hsp
  with_reducible refine HSp.out.mono ?_
  rintro e w3 ⟨A3, l3, c3, ev3, rfl, ht3, hn3, hb3, hc3, heq3⟩
  have HT3 := Lib.hid ht3
  have HN3 := Lib.hid hn3
  have HB3 := Lib.hid (HB2.out.trans (hb3.mono HB2.out.size))
  have HB23 := Lib.hid hb3
  have HW3 := Lib.hid (hgW.below hg2 hb3)
  have HG := Lib.hid hgA
  have hg3 := Nat.lt_of_lt_of_le hg2 hb3.size
  have hgw : w.heap.size ≤ g := Nat.le_trans HB1.out.size hg1
  clear ht3 hn3 hb3 hgW hgA HSp
  go_wp2_with fail
  go_loopw [10] (fun i wr => ∃ (j : Nat), j ≤ bs.length ∧ i = .int .i64 j ∧ Kx (fun b => b = g) w3 wr ∧ Wrt wr g bs.length) (fun i _ => bs.length - (intOf i).toNat)
  case atStart => exact ⟨0, by omega, rfl, Kx.refl_, HW3.out⟩
  case round =>
    obtain ⟨j, hj, rfl, hk, hw⟩ := hrel
    by_cases hlt : j < bs.length
    · obtain rfl := HG.out j hlt
      obtain ⟨⟨z, hz⟩, hf⟩ := hw j hlt
      have HK := Lib.hid hk
      have HW := Lib.hid hw
      have hgr := Nat.lt_of_lt_of_le hg3 hk.size
      clear hk hw
      go_wp2_with fail
      go_roundw
      case rel => exact ⟨j + 1, by omega, by go_num, HK.out.setCell (.inl rfl) _, HW.out.set j _⟩
      case measure => simp [intOf]; omega
    · have HK := Lib.hid hk
      have hB4 : Below w.heap.size w wr := HB3.out.trans (hk.below HB3.out.size (fun b hb => by omega))
      have hA3 : SecsAt wr wr.heap.size A3 l3 := (HN3.out wr (hk.agr fun b hb => ⟨hb.2, by have := hb.1; omega⟩)).more hk.size
      have hsp := Split_u Ab cb bs wr ((HSb.out.below hB4).more hB4.size) hcb HMb.out (by omega)
      rw [HR.out] at hsp
      have HSp := Lib.hid hsp
      have HA3 := Lib.hid hA3
      have HB4 := Lib.hid hB4
      clear hk hw hB4 hA3 hsp HK
      go_wp2_with fail
      with_reducible refine HSp.out.mono ?_
      rintro e w4 ⟨A4, l4, c4, ev4, rfl, ht4, hn4, hb4, hc4, heq4⟩
      have hk4 : l3.map Sc.tr = l4.map Sc.tr := HT3.out.trans ht4.symm
      have hkk : l3.map Sc.key = l4.map Sc.key := by rw [keys_of HT3.out, keys_of ht4]
      have hSa := Same_same l3 l4 A3 A4 c3 c4 w4 (HA3.out.later hb4) hn4.now hkk (by omega) l4.length rfl
      have HSa := Lib.hid hSa
      have HB5 := Lib.hid (HB4.out.trans (hb4.mono HB4.out.size))
      clear ht4 hn4 hb4 hk4 hkk hSa HSp
      go_wp2_with (first
        | (go_at_call 12; (with_reducible refine HSa.out.mono ?_); rintro e w5 ⟨rfl, hb5⟩; have HB6 := Lib.hid (HB5.out.trans (hb5.mono HB5.out.size)); clear hb5))
      go_loopw [14, 15] (fun v i wr => MnL l w5 v i wr) (fun _ i _ => l.length - (intOf i).toNat)
      case atStart => exact ⟨0, [], rfl, by omega, Lib.hid (by simp), OwnK.nil_ _ _ _ _ (Below.refl _ _) (Nat.le_refl _), by simp⟩
      case round =>
        obtain ⟨j, acc, rfl, hj, HT, ho, hnew⟩ := hrel
        have hal : acc.length = j := by have := congrArg List.length HT.out; rw [List.length_map, List.length_map, List.length_take] at this; omega
        by_cases hlt : j < l.length
        · obtain ⟨s, hse⟩ : ∃ s, l[j] = s := ⟨_, rfl⟩
          obtain ⟨b, o, rfl, hbl, p0, p1, p2, hok⟩ := HS.out.at_ hlt
          rw [hse] at p0 p1 p2 hok
          have hbw := HB6.out.trans (ho.below.mono HB6.out.size)
          obtain ⟨W1, hW1⟩ : ∃ W1 : World, W1 = wr.drew := ⟨_, rfl⟩
          have q0 : W1.cell? ⟨b, o + j * 3, none⟩ = some (.int .i64 s.id) := by rw [hW1]; exact (hbw.cell (p := ⟨b, o + j * 3, none⟩) hbl).trans p0
          have q1 : W1.cell? ⟨b, o + j * 3 + 1, none⟩ = some (.int .i64 s.at_) := by rw [hW1]; exact (hbw.cell (p := ⟨b, o + j * 3 + 1, none⟩) hbl).trans p1
          have q2 : W1.cell? ⟨b, o + j * 3 + 2, none⟩ = some (.slice s.A s.bs.length s.c) := by rw [hW1]; exact (hbw.cell (p := ⟨b, o + j * 3 + 2, none⟩) hbl).trans p2
          have hbW : b < W1.heap.size := by rw [hW1]; exact Nat.lt_of_lt_of_le hbl hbw.size
          have hrW : Below wr.heap.size wr W1 := by rw [hW1]; exact (Below.refl _ _).drew
          have HO := Lib.hid ho
          have HNew := Lib.hid hnew
          have HBw := Lib.hid hbw
          have HOk := Lib.hid hok
          have HSe := Lib.hid hse
          have HRW := Lib.hid hrW
          have HAl := Lib.hid hal
          have HP0 := Lib.hid p0
          have HP1 := Lib.hid p1
          have HP2 := Lib.hid p2
          have hsl : s.bs.length ≤ 100000 := by have := jnB_mem l j hlt; rw [Sect.encS_length, hse] at this; simp only [Sc.key] at this; omega
          have hal' : acc.length ≤ 300 := by omega
          have hil : (j : Int) < l.length := by omega
          have hi0 : (0 : Int) ≤ j := by omega
          clear ho hnew hbw hok hse p0 p1 p2 hrW hal
          go_wp2_with fail
          refine wp_region_held_drew (S := fun w' => w'.cell? ⟨b, o + j * 3, none⟩ = some (.int .i64 s.id) ∧ w'.cell? ⟨b, o + j * 3 + 1, none⟩ = some (.int .i64 s.at_) ∧ w'.cell? ⟨b, o + j * 3 + 2, none⟩ = some (.slice s.A s.bs.length s.c)) (by kernel_rfl) (by rw [← hW1]; exact ⟨q0, q1, q2⟩) (fun hHeld => ?_)
          rw [← hW1] at hHeld ⊢
          clear hW1
          refine region_take 0 (some 69) (v := ?_) rfl rfl (by kernel_rfl) (by kernel_rfl) (by kernel_rfl) (fun _ _ _ h => h) (by rfl) ?_ (by assumption) ?_
          rotate_left
          · (intro w' hSw; obtain ⟨s0, s1, s2⟩ := hSw; go_simp; try with_reducible rfl)
          try simp only [Act.put, List.setIfInBounds_toArray, List.set_cons_zero, List.set_cons_succ]
          refine region_take 1 (some 70) (v := ?_) rfl rfl (by kernel_rfl) (by kernel_rfl) (by kernel_rfl) (fun _ _ _ h => h) (by rfl) ?_ (by assumption) ?_
          rotate_left
          · (intro w' hSw; obtain ⟨s0, s1, s2⟩ := hSw; go_simp; try with_reducible rfl)
          try simp only [Act.put, List.setIfInBounds_toArray, List.set_cons_zero, List.set_cons_succ]
          refine region_take 2 (some 71) (v := ?_) rfl rfl (by kernel_rfl) (by kernel_rfl) (by kernel_rfl) (fun _ _ _ h => h) (by rfl) ?_ (by assumption) ?_
          rotate_left
          · (intro w' hSw; obtain ⟨s0, s1, s2⟩ := hSw; go_simp; try with_reducible rfl)
          try simp only [Act.put, List.setIfInBounds_toArray, List.set_cons_zero, List.set_cons_succ]
          refine region_take 3 (some 72) (v := ?_) rfl rfl (by kernel_rfl) (by kernel_rfl) (by kernel_rfl) (fun _ _ _ h => h) (by rfl) ?_ (by assumption) ?_
          rotate_left
          · (intro w' hSw; obtain ⟨s0, s1, s2⟩ := hSw; go_simp; try with_reducible rfl)
          try simp only [Act.put, List.setIfInBounds_toArray, List.set_cons_zero, List.set_cons_succ]
          refine region_take 4 (some 73) (v := ?_) rfl rfl (by kernel_rfl) (by kernel_rfl) (by kernel_rfl) (fun _ _ _ h => h) (by rfl) ?_ (by assumption) ?_
          rotate_left
          · (intro w' hSw; obtain ⟨s0, s1, s2⟩ := hSw; go_simp; try with_reducible rfl)
          try simp only [Act.put, List.setIfInBounds_toArray, List.set_cons_zero, List.set_cons_succ]
          refine region_take 5 (some 74) (v := ?_) rfl rfl (by kernel_rfl) (by kernel_rfl) (by kernel_rfl) (fun _ _ _ h => h) (by rfl) ?_ (by assumption) ?_
          rotate_left
          · (intro w' hSw; obtain ⟨s0, s1, s2⟩ := hSw; go_simp; try with_reducible rfl)
          try simp only [Act.put, List.setIfInBounds_toArray, List.set_cons_zero, List.set_cons_succ]
          refine region_take 6 (some 75) (v := ?_) rfl rfl (by kernel_rfl) (by kernel_rfl) (by kernel_rfl) (fun _ _ _ h => h) (by rfl) ?_ (by assumption) ?_
          rotate_left
          · (intro w' hSw; obtain ⟨s0, s1, s2⟩ := hSw; go_simp; try with_reducible rfl)
          try simp only [Act.put, List.setIfInBounds_toArray, List.set_cons_zero, List.set_cons_succ]
          refine region_take 7 (some 76) (v := ?_) rfl rfl (by kernel_rfl) (by kernel_rfl) (by kernel_rfl) (fun _ _ _ h => h) (by rfl) ?_ (by assumption) ?_
          rotate_left
          · (intro w' hSw; obtain ⟨s0, s1, s2⟩ := hSw; go_simp; try with_reducible rfl)
          try simp only [Act.put, List.setIfInBounds_toArray, List.set_cons_zero, List.set_cons_succ]
          refine region_take 8 (some 77) (v := ?_) rfl rfl (by kernel_rfl) (by kernel_rfl) (by kernel_rfl) (fun _ _ _ h => h) (by rfl) ?_ (by assumption) ?_
          rotate_left
          · (intro w' hSw; obtain ⟨s0, s1, s2⟩ := hSw; go_simp; try with_reducible rfl)
          try simp only [Act.put, List.setIfInBounds_toArray, List.set_cons_zero, List.set_cons_succ]
          refine region_take 9 (some 78) (v := ?_) rfl rfl (by kernel_rfl) (by kernel_rfl) (by kernel_rfl) (fun _ _ _ h => h) (by rfl) ?_ (by assumption) ?_
          rotate_left
          · (intro w' hSw; obtain ⟨s0, s1, s2⟩ := hSw; go_simp; try with_reducible rfl)
          try simp only [Act.put, List.setIfInBounds_toArray, List.set_cons_zero, List.set_cons_succ]
          refine region_take 10 (some 79) (v := ?_) rfl rfl (by kernel_rfl) (by kernel_rfl) (by kernel_rfl) (fun _ _ _ h => h) (by rfl) ?_ (by assumption) ?_
          rotate_left
          · (intro w' hSw; obtain ⟨s0, s1, s2⟩ := hSw; go_simp; try with_reducible rfl)
          try simp only [Act.put, List.setIfInBounds_toArray, List.set_cons_zero, List.set_cons_succ]
          refine region_take 12 (some 81) (v := ?_) rfl rfl (by kernel_rfl) (by kernel_rfl) (by kernel_rfl) (fun _ _ _ h => h) (by rfl) ?_ (by assumption) ?_
          rotate_left
          · (intro w' hSw; obtain ⟨s0, s1, s2⟩ := hSw; go_simp; try with_reducible rfl)
          try simp only [Act.put, List.setIfInBounds_toArray, List.set_cons_zero, List.set_cons_succ]
          refine region_take 13 (some 82) (v := ?_) rfl rfl (by kernel_rfl) (by kernel_rfl) (by kernel_rfl) (fun _ _ _ h => h) (by rfl) ?_ (by assumption) ?_
          rotate_left
          · (intro w' hSw; obtain ⟨s0, s1, s2⟩ := hSw; go_simp; try with_reducible rfl)
          try simp only [Act.put, List.setIfInBounds_toArray, List.set_cons_zero, List.set_cons_succ]
          refine region_take 14 (some 83) (v := ?_) rfl rfl (by kernel_rfl) (by kernel_rfl) (by kernel_rfl) (fun _ _ _ h => h) (by rfl) ?_ (by assumption) ?_
          rotate_left
          · (intro w' hSw; obtain ⟨s0, s1, s2⟩ := hSw; go_simp; try with_reducible rfl)
          try simp only [Act.put, List.setIfInBounds_toArray, List.set_cons_zero, List.set_cons_succ]
          refine region_take 15 (some 84) (v := ?_) rfl rfl (by kernel_rfl) (by kernel_rfl) (by kernel_rfl) (fun _ _ _ h => h) (by rfl) ?_ (by assumption) ?_
          rotate_left
          · (intro w' hSw; obtain ⟨s0, s1, s2⟩ := hSw; go_simp; try with_reducible rfl)
          try simp only [Act.put, List.setIfInBounds_toArray, List.set_cons_zero, List.set_cons_succ]
          refine region_take 16 (some 85) (v := ?_) rfl rfl (by kernel_rfl) (by kernel_rfl) (by kernel_rfl) (fun _ _ _ h => h) (by rfl) ?_ (by assumption) ?_
          rotate_left
          · (intro w' hSw; obtain ⟨s0, s1, s2⟩ := hSw; go_simp; try with_reducible rfl)
          try simp only [Act.put, List.setIfInBounds_toArray, List.set_cons_zero, List.set_cons_succ]
          refine wpAnyH_ready (rs := [11]) (by kernel_rfl) (by simp) ?_
          refine AllReadyH.cons rfl (fun K hK => ?_) AllReadyH.nil
          go_simp
          refine hK.out _ _ ⟨(World.cell?_alloc_lt _ _ _ hbW).trans q0, (World.cell?_alloc_lt _ _ _ hbW).trans q1, (World.cell?_alloc_lt _ _ _ hbW).trans q2⟩ (fun hHeld => ?_)
          clear hK K
          try simp only [Act.put, List.setIfInBounds_toArray, List.set_cons_zero, List.set_cons_succ]
          refine wpAnyH_ready (rs := [17]) (by kernel_rfl) (by simp) ?_
          refine AllReadyH.cons rfl (fun K hK => ?_) AllReadyH.nil
          refine wanted_yes' (by rfl) ?_
          refine op_bytes (.tmp 80) (.tmp 85) rfl s.bs rfl (OwB.lit W1 [] (by decide) _ rfl) rfl (HOk.out.sl.below (HBw.out.trans ((HRW.out.alloc HRW.out.size _).mono HBw.out.size))) rfl (by rw [List.length_nil]; omega) ?_
          intro v2 W2 ho2 hk2
          rw [List.nil_append] at ho2
          obtain ⟨A5, c5, hv2, -⟩ := OwnK.form ho2
          rw [ones_length, u8s_length] at hv2
          subst hv2
          have hb12 := OwB.below ho2
          have r0 := (hb12.cell (p := ⟨b, o + j * 3, none⟩) hbW).trans q0
          have r1 := (hb12.cell (p := ⟨b, o + j * 3 + 1, none⟩) hbW).trans q1
          have r2 := (hb12.cell (p := ⟨b, o + j * 3 + 2, none⟩) hbW).trans q2
          have hbW2 := Nat.lt_of_lt_of_le hbW hb12.size
          have HB12 := Lib.hid hb12
          have HO5 := Lib.hid (OwnK.base ho2 HRW.out.size HRW.out)
          have HBr2 : Hid (Below wr.heap.size wr W2) := Lib.hid (HRW.out.trans (hb12.mono HRW.out.size))
          clear ho2 hk2 hb12 q0 q1 q2
          refine hK.out _ _ ⟨r0, r1, r2⟩ (fun hHeld => ?_)
          clear hK K
          try simp only [Act.put, List.setIfInBounds_toArray, List.set_cons_zero, List.set_cons_succ]
          refine region_take 18 (some 87) (v := ?_) rfl rfl (by kernel_rfl) (by kernel_rfl) (by kernel_rfl) (fun _ _ _ h => h) (by rfl) ?_ (by assumption) ?_
          rotate_left
          · (intro w' hSw; obtain ⟨s0, s1, s2⟩ := hSw; go_simp; try with_reducible rfl)
          try simp only [Act.put, List.setIfInBounds_toArray, List.set_cons_zero, List.set_cons_succ]
          refine wpAnyH_ready (rs := [19]) (by kernel_rfl) (by simp) ?_
          refine AllReadyH.cons rfl (fun K hK => ?_) AllReadyH.nil
          go_simp
          refine hK.out _ _ ⟨(World.cell?_alloc_lt _ _ _ hbW2).trans r0, (World.cell?_alloc_lt _ _ _ hbW2).trans r1, (World.cell?_alloc_lt _ _ _ hbW2).trans r2⟩ (fun hHeld => ?_)
          clear hK K
          try simp only [Act.put, List.setIfInBounds_toArray, List.set_cons_zero, List.set_cons_succ]
          refine wpAnyH_ready (rs := [20]) (by kernel_rfl) (by simp) ?_
          refine AllReadyH.cons rfl (fun K hK => ?_) AllReadyH.nil
          refine wanted_yes' (by rfl) ?_
          refine op_pushK (.tmp 69) (.tmp 88) _ rfl 40 Tryd.underlying24 elem_sec (by decide) (Sc.cells ⟨s.id, s.at_, A5, c5, s.bs⟩) 1 W2.heap.size rfl (HO.out.later (HBr2.out.alloc HBr2.out.size _)) rfl rfl (fun k u hk => by rw [World.cell?_alloc_at _ _ _ _ rfl]; simpa [Sc.cells] using hk) (Sc.one ⟨s.id, s.at_, A5, c5, s.bs⟩) (by rw [List.length_map]; omega) (by rw [List.length_map]; unfold maxLen; omega) ?_
          intro v6 w6 ho6 hk6 hs6
          have hbw6 := HB6.out.trans (ho6.below.mono HB6.out.size)
          have t0 := (hbw6.cell (p := ⟨b, o + j * 3, none⟩) hbl).trans HP0.out
          have t1 := (hbw6.cell (p := ⟨b, o + j * 3 + 1, none⟩) hbl).trans HP1.out
          have t2 := (hbw6.cell (p := ⟨b, o + j * 3 + 2, none⟩) hbl).trans HP2.out
          have HO6 := Lib.hid ho6
          have HK6 := Lib.hid hk6
          have HS6 := Lib.hid hs6
          clear ho6 hk6 hs6 hbw6 r0 r1 r2
          refine hK.out _ _ ⟨t0, t1, t2⟩ (fun hHeld => ?_)
          clear hK K
          try simp only [Act.put, List.setIfInBounds_toArray, List.set_cons_zero, List.set_cons_succ]
          refine region_take 21 (some 14) (v := ?_) rfl rfl (by kernel_rfl) (by kernel_rfl) (by kernel_rfl) (fun _ _ _ h => h) (by rfl) ?_ (by assumption) ?_
          rotate_left
          · (intro w' hSw; obtain ⟨s0, s1, s2⟩ := hSw; go_simp; try with_reducible rfl)
          try simp only [Act.put, List.setIfInBounds_toArray, List.set_cons_zero, List.set_cons_succ]
          refine wpAnyH_done (by kernel_rfl) ?_ _
          clear hHeld t0 t1 t2
          go_wp2_with fail
          go_roundw
          case rel =>
            refine ⟨j + 1, acc ++ [⟨s.id, s.at_, A5, c5, s.bs⟩], by go_num, by omega, Lib.hid ?_, by rw [List.map_append]; exact HO6.out, ?_⟩
            · rw [List.map_append, HT.out, List.take_succ_eq_append_getElem hlt, List.map_append, HSe.out]; rfl
            · exact gather _ _ HOk.out.id HOk.out.at_ (fun g hg => (HO.out.own_lt hg).2) HO.out.below.size HNew.out HO5.out ((Below.refl _ _).alloc (Nat.le_refl _) _) HK6.out HS6.out
          case measure => simp [intOf]; omega
        · have hj' : j = l.length := by omega
          have hT := HT.out
          rw [hj', List.take_length] at hT
          have hkey := keys_tr hT
          obtain ⟨A6, c6, rfl, -, -, hn6⟩ := secs_of_own ho hnew
          have hbw := HB6.out.trans (ho.below.mono HB6.out.size)
          have hjn := Join_u acc A6 c6 wr hn6.now (by omega) (by rw [jnB_key hkey]; omega)
          rw [jnR_key hkey, mayJ_key hkey] at hjn
          have HJn := Lib.hid hjn
          have HBw := Lib.hid hbw
          have hacl : acc.length ≤ 300 := by omega
          have HMine : Hid (∀ (w7 w' : World) (g7 : Nat), Below wr.heap.size wr w7 → wr.heap.size ≤ g7 → Kx (fun b => b = g7) w7 w' → SecsAt w' w'.heap.size A6 acc) := Lib.hid (fun w7 w' g7 hb hg hk => by
            have ha : Agr (Win w5.heap.size wr) wr w' := (Below.agr hb (fun b hb => hb.2)).trans (hk.agr fun b hb2 => ⟨Nat.lt_of_lt_of_le hb2.2 hb.size, by have := hb2.2; omega⟩)
            exact (hn6 w' ha).more (Nat.le_trans hb.size hk.size))
          have HKey := Lib.hid hkey
          clear ho hnew hj' hT hkey hn6 hbw hjn hal HT
          go_wp2_with fail
          with_reducible refine HJn.out.mono ?_
          rintro e w7 ⟨A7, n7, c7, ev7, g7, rfl, hn7, hs7, hb7, hg7, hA7, hW7, heq7⟩
          subst hn7
          have hcv7 := string_of hs7 c7
          have HB7 := Lib.hid (HBw.out.trans (hb7.mono HBw.out.size))
          have HMine7 := Lib.hid (fun w' (hk : Kx (fun b => b = g7) w7 w') => HMine.out w7 w' g7 hb7 hg7 hk)
          have HA7 := Lib.hid hA7
          have HW7 := Lib.hid hW7
          have hgw7 : w.heap.size ≤ g7 := Nat.le_trans HBw.out.size hg7
          have hnR : (jnR l).length ≤ 100000 := by unfold jnR; split; exact hsz; simp
          obtain ⟨N, hN⟩ : ∃ N, (jnR l).length = N := ⟨_, rfl⟩
          have HNl := Lib.hid hN
          rw [hN] at hcv7 hnR HA7 HW7 ⊢
          clear hs7 hb7 hg7 hA7 hW7 HMine HJn hN
          go_wp2_with fail
          go_loopw [19] (fun i wr => ∃ (j : Nat), j ≤ N ∧ i = .int .i64 j ∧ Kx (fun b => b = g7) w7 wr ∧ Wrt wr g7 N) (fun i _ => N - (intOf i).toNat)
          case atStart => exact ⟨0, by omega, rfl, Kx.refl_, HW7.out⟩
          case round =>
            obtain ⟨i, hi, rfl, hk, hw⟩ := hrel
            by_cases hlt3 : i < N
            · obtain rfl := HA7.out i hlt3
              obtain ⟨⟨z, hz⟩, hf⟩ := hw i hlt3
              have HK := Lib.hid hk
              have HW := Lib.hid hw
              clear hk hw
              go_wp2_with fail
              go_roundw
              case rel => exact ⟨i + 1, by omega, by go_num, HK.out.setCell (.inl rfl) _, HW.out.set i _⟩
              case measure => simp [intOf]; omega
            · have hB8 : Below w.heap.size w wr := HB7.out.trans (hk.below HB7.out.size (fun b hb => by omega))
              have hA8 := HMine7.out wr hk
              have hjn := Join_u acc A6 c6 wr hA8 (by omega) (by rw [jnB_key HKey.out]; omega)
              rw [jnR_key HKey.out, mayJ_key HKey.out, HNl.out] at hjn
              have HJn := Lib.hid hjn
              have HA8 := Lib.hid hA8
              have HB8 := Lib.hid hB8
              clear hk hw hB8 hA8 hjn
              go_wp2_with fail
              with_reducible refine HJn.out.mono ?_
              rintro e w8 ⟨A8, n8, c8, ev8, g8, rfl, hn8, hs8, hb8, -, -, -, heq8⟩
              subst hn8
              have hv : ∀ w', Below w8.heap.size w8 w' → (convert 22 9 (.slice A8 n8 c8)).run Tryd.prog w' = .ok (.string ⟨(jnR l).toArray⟩) w' := fun w' hb => by
                have h := string_of (hs8.below hb) c8
                rw [HNl.out] at h
                exact h
              have hB9 := HB8.out.trans (hb8.mono HB8.out.size)
              obtain ⟨W, hW⟩ : ∃ W : World, W = w8.drew := ⟨_, rfl⟩
              have hbW : Below w8.heap.size w8 W := by rw [hW]; exact (Below.refl _ _).drew
              have hB10 : Below w.heap.size w W := hB9.trans (hbW.mono hB9.size)
              have hMW : SecsAt W W.heap.size A6 acc := (HA8.out.later hb8).later hbW
              have hSa := Same_same acc l A6 A c6 c W hMW (HS.out.later hB10) HKey.out (by omega) l.length rfl
              have HSa := Lib.hid hSa
              have HV := Lib.hid hv
              have HBW := Lib.hid hbW
              have HB10 := Lib.hid hB10
              have k3 := fun w2 => (heq3 w2).2
              have k4 := fun w2 => (heq4 w2).2
              have k7 := fun w2 => (heq7 w2).2
              have k8 := fun w2 => (heq8 w2).2
              replace heq3 := fun w2 => (heq3 w2).1
              replace heq4 := fun w2 => (heq4 w2).1
              replace heq7 := fun w2 => (heq7 w2).1
              replace heq8 := fun w2 => (heq8 w2).1
              obtain ⟨q1, hq1⟩ : ∃ q1, okb R = q1 := ⟨_, rfl⟩
              obtain ⟨q2, hq2⟩ : ∃ q2, mayJ l = q2 := ⟨_, rfl⟩
              obtain ⟨ys, hys⟩ : ∃ ys, jnR l = ys := ⟨_, rfl⟩
              rw [hq1] at heq3 heq4
              rw [hq2] at heq7 heq8
              rw [hys] at HV ⊢
              have tq1 : (q1 == q1) = true := by simp
              have tq2 : (q2 == q2) = true := by simp
              have ts : (ys == ys) = true := by simp
              clear hs8 hb8 hv hB9 hbW hB10 hMW hSa hcv7 HR HJn hq1 hq2 hys
              go_wp2_with fail
              refine wp_region_held_drew (S := fun w' => (convert 22 9 (.slice A8 n8 c8)).run Tryd.prog w' = .ok (.string ⟨ys.toArray⟩) w' ∧ True) (by kernel_rfl) (by rw [← hW]; exact ⟨HV.out _ HBW.out, trivial⟩) (fun hHeld => ?_)
              rw [← hW] at hHeld ⊢
              clear hW
              refine region_take 0 (some 111) (v := ?_) rfl rfl (by kernel_rfl) (by kernel_rfl) (by kernel_rfl) (fun _ _ _ h => h) (by rfl) ?_ (by assumption) ?_
              rotate_left
              · (intro w hSw; (try dsimp only at hSw); go_simp; try with_reducible rfl)
              try simp only [Act.put, List.setIfInBounds_toArray, List.set_cons_zero, List.set_cons_succ]
              refine region_take 1 (some 112) (v := ?_) rfl rfl (by kernel_rfl) (by kernel_rfl) (by kernel_rfl) (fun _ _ _ h => h) (by rfl) ?_ (by assumption) ?_
              rotate_left
              · (intro w hSw; (try dsimp only at hSw); go_simp; try with_reducible rfl)
              try simp only [Act.put, List.setIfInBounds_toArray, List.set_cons_zero, List.set_cons_succ]
              refine region_take 2 (some 113) (v := ?_) rfl rfl (by kernel_rfl) (by kernel_rfl) (by kernel_rfl) (fun _ _ _ h => h) (by rfl) ?_ (by assumption) ?_
              rotate_left
              · (intro w hSw; (try dsimp only at hSw); go_simp; try with_reducible rfl)
              try simp only [Act.put, List.setIfInBounds_toArray, List.set_cons_zero, List.set_cons_succ]
              refine region_take 3 (some 114) (v := ?_) rfl rfl (by kernel_rfl) (by kernel_rfl) (by kernel_rfl) (fun _ _ _ h => h) (by rfl) ?_ (by assumption) ?_
              rotate_left
              · (intro w hSw; (try dsimp only at hSw); go_simp; try with_reducible rfl)
              try simp only [Act.put, List.setIfInBounds_toArray, List.set_cons_zero, List.set_cons_succ]
              refine region_take 4 (some 115) (v := ?_) rfl rfl (by kernel_rfl) (by kernel_rfl) (by kernel_rfl) (fun _ _ _ h => h) (by rfl) ?_ (by assumption) ?_
              rotate_left
              · (intro w hSw; (try dsimp only at hSw); go_simp; try with_reducible rfl)
              try simp only [Act.put, List.setIfInBounds_toArray, List.set_cons_zero, List.set_cons_succ]
              refine region_take 5 (some 116) (v := ?_) rfl rfl (by kernel_rfl) (by kernel_rfl) (by kernel_rfl) (fun _ _ _ h => h) (by rfl) ?_ (by assumption) ?_
              rotate_left
              · (intro w hSw; (try dsimp only at hSw); go_simp; try with_reducible rfl)
              try simp only [Act.put, List.setIfInBounds_toArray, List.set_cons_zero, List.set_cons_succ]
              refine region_take 6 (some 117) (v := ?_) rfl rfl (by kernel_rfl) (by kernel_rfl) (by kernel_rfl) (fun _ _ _ h => h) (by rfl) ?_ (by assumption) ?_
              rotate_left
              · (intro w hSw; (try dsimp only at hSw); go_simp; try with_reducible rfl)
              try simp only [Act.put, List.setIfInBounds_toArray, List.set_cons_zero, List.set_cons_succ]
              refine region_take 7 (some 118) (v := ?_) rfl rfl (by kernel_rfl) (by kernel_rfl) (by kernel_rfl) (fun _ _ _ h => h) (by rfl) ?_ (by assumption) ?_
              rotate_left
              · (intro w hSw; (try dsimp only at hSw); go_simp; try with_reducible rfl)
              try simp only [Act.put, List.setIfInBounds_toArray, List.set_cons_zero, List.set_cons_succ]
              refine region_take 8 (some 119) (v := ?_) rfl rfl (by kernel_rfl) (by kernel_rfl) (by kernel_rfl) (fun _ _ _ h => h) (by rfl) ?_ (by assumption) ?_
              rotate_left
              · (intro w hSw; (try dsimp only at hSw); go_simp; try with_reducible rfl)
              try simp only [Act.put, List.setIfInBounds_toArray, List.set_cons_zero, List.set_cons_succ]
              refine region_take 9 (some 120) (v := ?_) rfl rfl (by kernel_rfl) (by kernel_rfl) (by kernel_rfl) (fun _ _ _ h => h) (by rfl) ?_ (by assumption) ?_
              rotate_left
              · (intro w hSw; (try dsimp only at hSw); go_simp; try with_reducible rfl)
              try simp only [Act.put, List.setIfInBounds_toArray, List.set_cons_zero, List.set_cons_succ]
              refine region_take 10 (some 121) (v := ?_) rfl rfl (by kernel_rfl) (by kernel_rfl) (by kernel_rfl) (fun _ _ _ h => h) (by rfl) ?_ (by assumption) ?_
              rotate_left
              · (intro w hSw; (try dsimp only at hSw); go_simp; try with_reducible rfl)
              try simp only [Act.put, List.setIfInBounds_toArray, List.set_cons_zero, List.set_cons_succ]
              refine region_take 11 (some 122) (v := ?_) rfl rfl (by kernel_rfl) (by kernel_rfl) (by kernel_rfl) (fun _ _ _ h => h) (by rfl) ?_ (by assumption) ?_
              rotate_left
              · (intro w hSw; (try dsimp only at hSw); go_simp; try with_reducible rfl)
              try simp only [Act.put, List.setIfInBounds_toArray, List.set_cons_zero, List.set_cons_succ]
              refine region_take 12 (some 123) (v := ?_) rfl rfl (by kernel_rfl) (by kernel_rfl) (by kernel_rfl) (fun _ _ _ h => h) (by rfl) ?_ (by assumption) ?_
              rotate_left
              · (intro w hSw; (try dsimp only at hSw); go_simp; try with_reducible rfl)
              try simp only [Act.put, List.setIfInBounds_toArray, List.set_cons_zero, List.set_cons_succ]
              refine region_take 13 (some 124) (v := ?_) rfl rfl (by kernel_rfl) (by kernel_rfl) (by kernel_rfl) (fun _ _ _ h => h) (by rfl) ?_ (by assumption) ?_
              rotate_left
              · (intro w hSw; (try dsimp only at hSw); go_simp; try with_reducible rfl)
              try simp only [Act.put, List.setIfInBounds_toArray, List.set_cons_zero, List.set_cons_succ]
              refine region_take 14 (some 125) (v := ?_) rfl rfl (by kernel_rfl) (by kernel_rfl) (by kernel_rfl) (fun _ _ _ h => h) (by rfl) ?_ (by assumption) ?_
              rotate_left
              · (intro w hSw; (try dsimp only at hSw); go_simp; try with_reducible rfl)
              try simp only [Act.put, List.setIfInBounds_toArray, List.set_cons_zero, List.set_cons_succ]
              refine region_take 15 (some 126) (v := ?_) rfl rfl (by kernel_rfl) (by kernel_rfl) (by kernel_rfl) (fun _ _ _ h => h) (by rfl) ?_ (by assumption) ?_
              rotate_left
              · (intro w hSw; (try dsimp only at hSw); go_simp; try with_reducible rfl)
              try simp only [Act.put, List.setIfInBounds_toArray, List.set_cons_zero, List.set_cons_succ]
              refine region_take 16 (some 127) (v := ?_) rfl rfl (by kernel_rfl) (by kernel_rfl) (by kernel_rfl) (fun _ _ _ h => h) (by rfl) ?_ (by assumption) ?_
              rotate_left
              · (intro w hSw; (try dsimp only at hSw); go_simp; try with_reducible rfl)
              try simp only [Act.put, List.setIfInBounds_toArray, List.set_cons_zero, List.set_cons_succ]
              refine region_take 17 (some 128) (v := ?_) rfl rfl (by kernel_rfl) (by kernel_rfl) (by kernel_rfl) (fun _ _ _ h => h) (by rfl) ?_ (by assumption) ?_
              rotate_left
              · (intro w hSw; (try dsimp only at hSw); go_simp; try with_reducible rfl)
              try simp only [Act.put, List.setIfInBounds_toArray, List.set_cons_zero, List.set_cons_succ]
              refine region_take 18 (some 129) (v := ?_) rfl rfl (by kernel_rfl) (by kernel_rfl) (by kernel_rfl) (fun _ _ _ h => h) (by rfl) ?_ (by assumption) ?_
              rotate_left
              · (intro w hSw; (try dsimp only at hSw); go_simp; try with_reducible rfl)
              try simp only [Act.put, List.setIfInBounds_toArray, List.set_cons_zero, List.set_cons_succ]
              refine region_take 19 (some 130) (v := ?_) rfl rfl (by kernel_rfl) (by kernel_rfl) (by kernel_rfl) (fun _ _ _ h => h) (by rfl) ?_ (by assumption) ?_
              rotate_left
              · (intro w hSw; (try dsimp only at hSw); go_simp; try with_reducible rfl)
              try simp only [Act.put, List.setIfInBounds_toArray, List.set_cons_zero, List.set_cons_succ]
              refine region_take 20 (some 131) (v := ?_) rfl rfl (by kernel_rfl) (by kernel_rfl) (by kernel_rfl) (fun _ _ _ h => h) (by rfl) ?_ (by assumption) ?_
              rotate_left
              · (intro w hSw; (try dsimp only at hSw); go_simp; try with_reducible rfl)
              try simp only [Act.put, List.setIfInBounds_toArray, List.set_cons_zero, List.set_cons_succ]
              refine region_take 21 (some 132) (v := ?_) rfl rfl (by kernel_rfl) (by kernel_rfl) (by kernel_rfl) (fun _ _ _ h => h) (by rfl) ?_ (by assumption) ?_
              rotate_left
              · (intro w hSw; (try dsimp only at hSw); go_simp; try with_reducible rfl)
              try simp only [Act.put, List.setIfInBounds_toArray, List.set_cons_zero, List.set_cons_succ]
              refine region_take 22 (some 133) (v := ?_) rfl rfl (by kernel_rfl) (by kernel_rfl) (by kernel_rfl) (fun _ _ _ h => h) (by rfl) ?_ (by assumption) ?_
              rotate_left
              · (intro w hSw; (try dsimp only at hSw); go_simp; try with_reducible rfl)
              try simp only [Act.put, List.setIfInBounds_toArray, List.set_cons_zero, List.set_cons_succ]
              refine region_take 23 (some 134) (v := ?_) rfl rfl (by kernel_rfl) (by kernel_rfl) (by kernel_rfl) (fun _ _ _ h => h) (by rfl) ?_ (by assumption) ?_
              rotate_left
              · (intro w hSw; (try dsimp only at hSw); go_simp; try with_reducible rfl)
              try simp only [Act.put, List.setIfInBounds_toArray, List.set_cons_zero, List.set_cons_succ]
              refine region_take 24 (some 135) (v := ?_) rfl rfl (by kernel_rfl) (by kernel_rfl) (by kernel_rfl) (fun _ _ _ h => h) (by rfl) ?_ (by assumption) ?_
              rotate_left
              · (intro w hSw; (try dsimp only at hSw); go_simp; try with_reducible rfl)
              try simp only [Act.put, List.setIfInBounds_toArray, List.set_cons_zero, List.set_cons_succ]
              refine region_take 25 (some 136) (v := ?_) rfl rfl (by kernel_rfl) (by kernel_rfl) (by kernel_rfl) (fun _ _ _ h => h) (by rfl) ?_ (by assumption) ?_
              rotate_left
              · (intro w hSw; (try dsimp only at hSw); go_simp; try with_reducible rfl)
              try simp only [Act.put, List.setIfInBounds_toArray, List.set_cons_zero, List.set_cons_succ]
              refine region_take 26 (some 137) (v := ?_) rfl rfl (by kernel_rfl) (by kernel_rfl) (by kernel_rfl) (fun _ _ _ h => h) (by rfl) ?_ (by assumption) ?_
              rotate_left
              · (intro w hSw; (try dsimp only at hSw); go_simp; try with_reducible rfl)
              try simp only [Act.put, List.setIfInBounds_toArray, List.set_cons_zero, List.set_cons_succ]
              refine wpAnyH_ready (rs := [27]) (by kernel_rfl) (by simp) ?_
              refine AllReadyH.cons rfl (fun K hK => ?_) AllReadyH.nil
              go_simp
              refine HSa.out.mono ?_
              rintro e w9 ⟨rfl, hb9⟩
              have hS9 := HV.out _ (HBW.out.trans (hb9.mono HBW.out.size))
              have HB11 := Lib.hid (HB10.out.trans (hb9.mono HB10.out.size))
              clear hb9
              go_wp2_with fail
              refine hK.out _ _ ⟨hS9, trivial⟩ (fun hHeld => ?_)
              clear hK K
              try simp only [Act.put, List.setIfInBounds_toArray, List.set_cons_zero, List.set_cons_succ]
              refine region_take 28 (some 139) (v := ?_) rfl rfl (by kernel_rfl) (by kernel_rfl) (by kernel_rfl) (fun _ _ _ h => h) (by rfl) ?_ (by assumption) ?_
              rotate_left
              · (intro w hSw; (try dsimp only at hSw); go_simp; try with_reducible rfl)
              try simp only [Act.put, List.setIfInBounds_toArray, List.set_cons_zero, List.set_cons_succ]
              refine region_take 29 (some 4) (v := ?_) rfl rfl (by kernel_rfl) (by kernel_rfl) (by kernel_rfl) (fun _ _ _ h => h) (by rfl) ?_ (by assumption) ?_
              rotate_left
              · (intro w hSw; (try dsimp only at hSw); go_simp; try with_reducible rfl)
              try simp only [Act.put, List.setIfInBounds_toArray, List.set_cons_zero, List.set_cons_succ]
              refine wpAnyH_done (by kernel_rfl) ?_ _
              go_wp2_with fail
              go_ret
              exact ⟨rfl, HB11.out⟩
end Go.Proofs.YthkdpcoacjgomaaDoor
