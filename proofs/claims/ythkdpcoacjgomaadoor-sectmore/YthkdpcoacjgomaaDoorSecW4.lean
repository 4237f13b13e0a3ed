/- The walk of SectMore: it returns true, whatever the input; nothing that was there changes. -/
import Derived.Test.YthkdpcoacjgomaaDoorSecW2
import Derived.Test.YthkdpcoacjgomaaDoorSecH
set_option linter.unusedVariables false
set_option linter.unusedSimpArgs false
namespace Go.Proofs.YthkdpcoacjgomaaDoor
open Go.RowKit Trx

theorem split_more (bs : List UInt8) (t : List Sect.Pt) (h : Sect.split bs = .ok t) (ht : t.length < 128) (b : List UInt8) (hb : b.length ≤ 100) (x : UInt8) (hx : x.toNat = b.length) :
    Sect.split (bs ++ (0 :: x :: b)) = .ok (t ++ [⟨0, bs.length + 2, b⟩]) := by
  have hm := (Sect.split_ok bs t h).1
  have h8 : 8 ≤ bs.length := by have := congrArg List.length hm; simp [Sect.magic] at this; omega
  unfold Sect.split at h ⊢
  rw [if_pos hm] at h
  rw [List.take_append_of_le_length h8, if_pos hm, List.drop_append_of_le_length h8]
  rw [Sect.spl_app (0 :: x :: b) _ _ _ _ _ t (Nat.le_refl _) h, Sect.spl_custom b _ _ _ (by omega) hb x hx]
  rw [List.length_drop, show 8 + (bs.length - 8) + 2 = bs.length + 2 by omega]
  rfl

theorem last_of {l : List Sc} {t : List Sect.Pt} {p n : Nat} {b : List UInt8} (h : l.map Sc.tr = (t ++ [(⟨0, p, b⟩ : Sect.Pt)]).map ptr) (hn : n = t.length) : ∃ s, l[n]? = some s ∧ s.id = 0 ∧ s.at_ = (p : Int) ∧ s.bs = b := by
  have h1 := congrArg (fun l => l[n]?) h
  subst hn
  simp only [List.map_append, List.map_cons, List.map_nil, List.getElem?_map] at h1
  rw [List.getElem?_append_right (by simp)] at h1
  simp only [List.length_map, Nat.sub_self, List.getElem?_cons_zero] at h1
  obtain ⟨s, hs, he⟩ := Option.map_eq_some_iff.1 h1
  exact ⟨s, hs, congrArg (fun q => q.1) he, congrArg (fun q => q.2.1) he, congrArg (fun q => q.2.2) he⟩

set_option maxHeartbeats 16000000 in
set_option maxRecDepth 100000 in
theorem walk_SectMore (A : Option Addr) (c : Nat) (bs : List UInt8) (Ab : Option Addr) (cb : Nat) (bb : List UInt8) (w : World) (hs : Sl w w.heap.size A (u8s bs)) (hc : bs.length ≤ c) (hm : c ≤ maxLen) (hsb : Sl w w.heap.size Ab (u8s bb)) (_hcb : bb.length ≤ cb) (_hmb : cb ≤ maxLen) (hE : Et w) :
    Calls Tryd.prog 7 #[.slice A bs.length c, .slice Ab bb.length cb] w fun e w' => e = .returned (.bool true) ∧ Below w.heap.size w w' := by
  have HU := Lib.hid (up_any w hE)
  have hbig : (3000 : Int) < bs.length ∨ (¬ (3000 : Int) < bs.length ∧ (100 : Int) < bb.length) ∨ (¬ (3000 : Int) < bs.length ∧ ¬ (100 : Int) < bb.length) := by omega
  rcases hbig with y0 | ⟨y0, y1⟩ | ⟨y0, y1⟩
  · clear hs hsb hE
    go_enter Tryd.func7, Tryd.ntmps7
    go_wp2_with (first | (go_at_call 8; (with_reducible refine HU.out.mono ?_); rintro e w1 ⟨rfl, hb1⟩; have HB1 := Lib.hid hb1; clear hb1))
    go_ret
    exact ⟨rfl, HB1.out⟩
  · clear hs hsb hE
    go_enter Tryd.func7, Tryd.ntmps7
    go_wp2_with (first | (go_at_call 8; (with_reducible refine HU.out.mono ?_); rintro e w1 ⟨rfl, hb1⟩; have HB1 := Lib.hid hb1; clear hb1))
    go_ret
    exact ⟨rfl, HB1.out⟩
  have hn1 : bs.length ≤ 3000 := by omega
  have hn2 : bb.length ≤ 100 := by omega
  have HG := Lib.hid (fun w' (h : Below w.heap.size w w') => Split_any A c bs w' ((hs.below h).more h.size) hc hm (by omega))
  have HSb := Lib.hid hsb
  have HSs := Lib.hid hs
  clear hs hsb hE
  cases hr : Sect.split bs with
  | error er =>
    obtain ⟨k, p⟩ := er
    rw [hr] at HG
    unfold SplitR at HG
    dsimp only at HG
    clear hr
    go_enter Tryd.func7, Tryd.ntmps7
    go_wp2_with (first
      | (go_at_call 8; (with_reducible refine HU.out.mono ?_); rintro e w1 ⟨rfl, hb1⟩; have HB1 := Lib.hid hb1; clear hb1)
      | (go_at_call 9; (with_reducible refine (HG.out _ HB1.out).mono ?_); rintro e w2 ⟨v, rfl, ⟨vb, vo, rfl, hv1, hv2⟩, hb2⟩; have HB2 := Lib.hid (HB1.out.trans (hb2.mono HB1.out.size)); clear hv1 hv2 hb2))
    go_ret
    exact ⟨rfl, HB2.out⟩
  | ok t =>
    rw [hr] at HG
    unfold SplitR at HG
    dsimp only at HG
    have HR := Lib.hid hr
    clear hr
    go_enter Tryd.func7, Tryd.ntmps7
    go_wp2_with (first
      | (go_at_call 8; (with_reducible refine HU.out.mono ?_); rintro e w1 ⟨rfl, hb1⟩; have HB1 := Lib.hid hb1; clear hb1))
    with_reducible refine (HG.out _ HB1.out).mono ?_
    rintro e w2 ⟨A2, l2, c2, rfl, ht2, hl2, hm2, hn2', hb2⟩
    have HT2 := Lib.hid ht2
    have HB2 := Lib.hid (HB1.out.trans (hb2.mono HB1.out.size))
    have HA2 := Lib.hid hn2'.now
    have hlt : l2.length = t.length := by simpa using congrArg List.length ht2
    clear ht2 hn2' hb2
    by_cases h128 : 128 ≤ l2.length
    · have h128' : (128 : Int) ≤ l2.length := by omega
      clear hlt
      go_wp2_with fail
      go_ret
      exact ⟨rfl, HB2.out⟩
    have h128' : ¬ ((128 : Int) ≤ l2.length) := by omega
    obtain ⟨x, hx⟩ : ∃ x : UInt8, x.toNat = bb.length := ⟨UInt8.ofNat bb.length, Leb.toNat_ofNat (by omega)⟩
    have hsp := split_more bs t HR.out (by omega) bb hn2 x hx
    have hxi : (bb.length : Int) % 256 = (x.toNat : Int) := by omega
    obtain ⟨mb, hmbe⟩ : ∃ mb, [0, x] ++ bb = mb := ⟨_, rfl⟩
    have hmbl : mb.length ≤ 102 := by rw [← hmbe, List.length_append, List.length_cons, List.length_singleton]; omega
    obtain ⟨jb, hjbe⟩ : ∃ jb, bs ++ mb = jb := ⟨_, rfl⟩
    have hjbl : jb.length ≤ 4000 := by rw [← hjbe, List.length_append]; omega
    rw [show bs ++ (0 :: x :: bb) = bs ++ ([0, x] ++ bb) from rfl, hmbe, hjbe] at hsp
    have HMb := Lib.hid hmbe
    have HJb := Lib.hid hjbe
    have HSp := Lib.hid hsp
    have HLt := Lib.hid hlt
    have HX := Lib.hid hx
    have HX2 : Hid ((#[.int .u8 0, .int .u8 bb.length] : Array Value) = (u8s [0, x]).toArray) := Lib.hid (by simp [u8s, hx])
    have HO0 : Hid (OwB w2 (w2.alloc (.cells #[.int .u8 0, .int .u8 bb.length] 5)) (.slice (some ⟨w2.heap.size, 0, none⟩) 2 2) [0, x]) := Lib.hid (by rw [HX2.out]; exact OwB.lit w2 [0, x] (by simp [maxLen]) _ rfl)
    clear hsp hlt hx hxi hmbe hjbe
    go_wp2_with (first
      | (at_builtin; refine wpl_bytes rfl (.tmp 37) (.tmp 38) rfl bb rfl HO0.out rfl (HSb.out.below (HB2.out.alloc HB2.out.size _)) rfl (by rw [List.length_cons, List.length_singleton]; omega) ?_; intro v3 w3 ho3 hk3; rw [HMb.out] at ho3; obtain ⟨A3, c3, hv3, -, -, hr3⟩ := OwnK.form ho3; rw [ones_length, u8s_length] at hv3; subst hv3; have HR3 := Lib.hid (RowsAt.sl hr3); have HB23 := Lib.hid (OwB.below ho3); have HB3 := Lib.hid (HB2.out.trans ((OwB.below ho3).mono HB2.out.size)); clear ho3 hk3 hr3)
      | (at_builtin; refine wpl_bytes rfl (.tmp 41) (.tmp 42) rfl bs rfl (OwB.lit w3 [] (by decide) _ rfl) rfl (HSs.out.below (HB3.out.alloc HB3.out.size _)) rfl (by rw [List.length_nil]; omega) ?_; intro v4 w4 ho4 hk4; rw [List.nil_append] at ho4; have HO4 := Lib.hid ho4; have HR4 := Lib.hid (HR3.out.below (OwB.below ho4)); clear ho4 hk4)
      | (at_builtin; refine wpl_bytes rfl (.tmp 43) (.tmp 44) rfl mb rfl HO4.out rfl HR4.out rfl (by omega) ?_; intro v5 w5 ho5 hk5; rw [HJb.out] at ho5; obtain ⟨A5, c5, hv5, hl5, hm5, hr5⟩ := OwnK.form ho5; rw [ones_length, u8s_length] at hv5 hl5; subst hv5; have HR5 := Lib.hid (RowsAt.sl hr5); have HL5 := Lib.hid hl5; have HM5 := Lib.hid hm5; have HB35 := Lib.hid (OwB.below ho5); have HB5 := Lib.hid (HB3.out.trans ((OwB.below ho5).mono HB3.out.size)); clear ho5 hk5 hr5 hl5 hm5))
    have hG5 := Split_any A5 c5 jb w5 HR5.out HL5.out HM5.out (by omega)
    rw [HSp.out] at hG5
    unfold SplitR at hG5
    dsimp only at hG5
    have HG5 := Lib.hid hG5
    clear hG5
    with_reducible refine HG5.out.mono ?_
    rintro e w6 ⟨A6, l6, c6, rfl, ht6, hl6, hm6, hn6, hb6⟩
    have hlen6 : l6.length = l2.length + 1 := by
      have h := congrArg List.length ht6
      rw [List.length_map, List.length_map, List.length_append, List.length_singleton, ← HLt.out] at h
      exact h
    have htk : (l6.take l2.length).map Sc.key = l2.map Sc.key := by
      have h := keys_of ht6
      rw [List.map_append] at h
      rw [List.map_take, h, HLt.out, keys_of HT2.out]
      exact List.take_left' (by rw [List.length_map])
    have htl : (l6.take l2.length).length = l2.length := by rw [List.length_take]; omega
    have hB26 : Below w2.heap.size w2 w6 := HB23.out.trans ((HB35.out.trans (hb6.mono HB35.out.size)).mono HB23.out.size)
    have hSa := Same_same (l6.take l2.length) l2 A6 A2 c6 c2 w6 (hn6.now.take _) (HA2.out.later hB26) htk (by rw [htl]; omega) l2.length rfl
    rw [htl] at hSa
    have HSa := Lib.hid hSa
    have HA6 := Lib.hid hn6.now
    obtain ⟨s, hs6, hs0, hs1, hs2⟩ := last_of ht6 HLt.out
    have hlt6 : l2.length < l6.length := by omega
    have hse : l6[l2.length] = s := by
      rw [List.getElem?_eq_getElem hlt6] at hs6
      exact Option.some.inj hs6
    have HB6 := Lib.hid (HB5.out.trans (hb6.mono HB5.out.size))
    have HSe := Lib.hid hse
    have HS0 := Lib.hid hs0
    have HS1 := Lib.hid hs1
    have HS2 := Lib.hid hs2
    clear ht6 hn6 hb6 htk htl hSa hs6 hse hs0 hs1 hs2 hB26
    go_wp2_with (first
      | (go_at_call 12; (with_reducible refine HSa.out.mono ?_); rintro e w7 ⟨rfl, hb7⟩; have HA7 := Lib.hid (HA6.out.later hb7); have HB7 := Lib.hid (HB6.out.trans (hb7.mono HB6.out.size)); clear hb7))
    obtain ⟨b6, o6, rfl, hb6, p0, p1, p2, ok⟩ := HA7.out.at_ hlt6
    rw [HSe.out] at p0 p1 p2 ok
    have v1 := string_of (ok.sl.drewN 1) s.c
    have v2 := string_of ((HSb.out.below HB7.out).drewN 1) cb
    rw [HS0.out] at p0
    rw [HS1.out] at p1
    rw [HS2.out] at p2 v1
    have p0' : w7.drew.cell? ⟨b6, o6 + l2.length * 3, none⟩ = some (.int .i64 0) := p0
    have p1' : w7.drew.cell? ⟨b6, o6 + l2.length * 3 + 1, none⟩ = some (.int .i64 ((bs.length : Int) + 2)) := p1
    have p2' : w7.drew.cell? ⟨b6, o6 + l2.length * 3 + 2, none⟩ = some (.slice s.A bb.length s.c) := p2
    have ts : (bb == bb) = true := by simp
    have tw : IntKind.i64.wrap ((bs.length : Int) + 2) = (bs.length : Int) + 2 := by rw [IntWalk.i64_left]; unfold wrap64; omega
    have te : (((bs.length : Int) + 2) == ((bs.length : Int) + 2)) = true := by simp
    have hlt6i : (l2.length : Int) < l6.length := by omega
    have hlt60 : (0 : Int) ≤ l2.length := by omega
    have hlti : (l2.length : Int) < (l2.length : Int) + 1 := by omega
    clear p0 p1 p2 ok HG HG5 HO0 HX2 HSa
    refine wp_region_held_drew (S := fun w' => (w'.cell? ⟨b6, o6 + l2.length * 3, none⟩ = some (.int .i64 0) ∧ w'.cell? ⟨b6, o6 + l2.length * 3 + 1, none⟩ = some (.int .i64 ((bs.length : Int) + 2)) ∧ w'.cell? ⟨b6, o6 + l2.length * 3 + 2, none⟩ = some (.slice s.A bb.length s.c)) ∧
      ((convert 22 9 (.slice s.A bb.length s.c)).run Tryd.prog w' = .ok (.string ⟨bb.toArray⟩) w' ∧ (convert 22 9 (.slice Ab bb.length cb)).run Tryd.prog w' = .ok (.string ⟨bb.toArray⟩) w')) (by kernel_rfl) ⟨⟨p0', p1', p2'⟩, v1, v2⟩ (fun hHeld => ?_)
    refine region_take 0 (some 68) (v := ?_) rfl rfl (by kernel_rfl) (by kernel_rfl) (by kernel_rfl) (fun _ _ _ h => h) (by rfl) ?_ (by assumption) ?_
    rotate_left
    · (intro w hSw; (try dsimp only at hSw); go_simp; try with_reducible rfl)
    try simp only [Act.put, List.setIfInBounds_toArray, List.set_cons_zero, List.set_cons_succ]
    refine region_take 1 (some 69) (v := ?_) rfl rfl (by kernel_rfl) (by kernel_rfl) (by kernel_rfl) (fun _ _ _ h => h) (by rfl) ?_ (by assumption) ?_
    rotate_left
    · (intro w hSw; (try dsimp only at hSw); go_simp; try with_reducible rfl)
    try simp only [Act.put, List.setIfInBounds_toArray, List.set_cons_zero, List.set_cons_succ]
    refine region_take 2 (some 70) (v := ?_) rfl rfl (by kernel_rfl) (by kernel_rfl) (by kernel_rfl) (fun _ _ _ h => h) (by rfl) ?_ (by assumption) ?_
    rotate_left
    · (intro w hSw; (try dsimp only at hSw); go_simp; try with_reducible rfl)
    try simp only [Act.put, List.setIfInBounds_toArray, List.set_cons_zero, List.set_cons_succ]
    refine region_take 3 (some 71) (v := ?_) rfl rfl (by kernel_rfl) (by kernel_rfl) (by kernel_rfl) (fun _ _ _ h => h) (by rfl) ?_ (by assumption) ?_
    rotate_left
    · (intro w hSw; (try dsimp only at hSw); go_simp; try with_reducible rfl)
    try simp only [Act.put, List.setIfInBounds_toArray, List.set_cons_zero, List.set_cons_succ]
    refine region_take 4 (some 72) (v := ?_) rfl rfl (by kernel_rfl) (by kernel_rfl) (by kernel_rfl) (fun _ _ _ h => h) (by rfl) ?_ (by assumption) ?_
    rotate_left
    · (intro w hSw; (try dsimp only at hSw); go_simp; try with_reducible rfl)
    try simp only [Act.put, List.setIfInBounds_toArray, List.set_cons_zero, List.set_cons_succ]
    refine region_take 5 (some 73) (v := ?_) rfl rfl (by kernel_rfl) (by kernel_rfl) (by kernel_rfl) (fun _ _ _ h => h) (by rfl) ?_ (by assumption) ?_
    rotate_left
    · (intro w hSw; (try dsimp only at hSw); go_simp; try with_reducible rfl)
    try simp only [Act.put, List.setIfInBounds_toArray, List.set_cons_zero, List.set_cons_succ]
    refine region_take 6 (some 74) (v := ?_) rfl rfl (by kernel_rfl) (by kernel_rfl) (by kernel_rfl) (fun _ _ _ h => h) (by rfl) ?_ (by assumption) ?_
    rotate_left
    · (intro w hSw; (try dsimp only at hSw); go_simp; try with_reducible rfl)
    try simp only [Act.put, List.setIfInBounds_toArray, List.set_cons_zero, List.set_cons_succ]
    refine region_take 7 (some 75) (v := ?_) rfl rfl (by kernel_rfl) (by kernel_rfl) (by kernel_rfl) (fun _ _ _ h => h) (by rfl) ?_ (by assumption) ?_
    rotate_left
    · (intro w hSw; (try dsimp only at hSw); go_simp; try with_reducible rfl)
    try simp only [Act.put, List.setIfInBounds_toArray, List.set_cons_zero, List.set_cons_succ]
    refine region_take 8 (some 76) (v := ?_) rfl rfl (by kernel_rfl) (by kernel_rfl) (by kernel_rfl) (fun _ _ _ h => h) (by rfl) ?_ (by assumption) ?_
    rotate_left
    · (intro w hSw; (try dsimp only at hSw); go_simp; try with_reducible rfl)
    try simp only [Act.put, List.setIfInBounds_toArray, List.set_cons_zero, List.set_cons_succ]
    refine region_take 9 (some 77) (v := ?_) rfl rfl (by kernel_rfl) (by kernel_rfl) (by kernel_rfl) (fun _ _ _ h => h) (by rfl) ?_ (by assumption) ?_
    rotate_left
    · (intro w hSw; (try dsimp only at hSw); go_simp; try with_reducible rfl)
    try simp only [Act.put, List.setIfInBounds_toArray, List.set_cons_zero, List.set_cons_succ]
    refine region_take 10 (some 78) (v := ?_) rfl rfl (by kernel_rfl) (by kernel_rfl) (by kernel_rfl) (fun _ _ _ h => h) (by rfl) ?_ (by assumption) ?_
    rotate_left
    · (intro w hSw; (try dsimp only at hSw); go_simp; try with_reducible rfl)
    try simp only [Act.put, List.setIfInBounds_toArray, List.set_cons_zero, List.set_cons_succ]
    refine region_take 11 (some 79) (v := ?_) rfl rfl (by kernel_rfl) (by kernel_rfl) (by kernel_rfl) (fun _ _ _ h => h) (by rfl) ?_ (by assumption) ?_
    rotate_left
    · (intro w hSw; (try dsimp only at hSw); go_simp; try with_reducible rfl)
    try simp only [Act.put, List.setIfInBounds_toArray, List.set_cons_zero, List.set_cons_succ]
    refine region_take 12 (some 80) (v := ?_) rfl rfl (by kernel_rfl) (by kernel_rfl) (by kernel_rfl) (fun _ _ _ h => h) (by rfl) ?_ (by assumption) ?_
    rotate_left
    · (intro w hSw; (try dsimp only at hSw); go_simp; try with_reducible rfl)
    try simp only [Act.put, List.setIfInBounds_toArray, List.set_cons_zero, List.set_cons_succ]
    refine region_take 13 (some 81) (v := ?_) rfl rfl (by kernel_rfl) (by kernel_rfl) (by kernel_rfl) (fun _ _ _ h => h) (by rfl) ?_ (by assumption) ?_
    rotate_left
    · (intro w hSw; (try dsimp only at hSw); go_simp; try with_reducible rfl)
    try simp only [Act.put, List.setIfInBounds_toArray, List.set_cons_zero, List.set_cons_succ]
    refine region_take 14 (some 82) (v := ?_) rfl rfl (by kernel_rfl) (by kernel_rfl) (by kernel_rfl) (fun _ _ _ h => h) (by rfl) ?_ (by assumption) ?_
    rotate_left
    · (intro w hSw; (try dsimp only at hSw); go_simp; try with_reducible rfl)
    try simp only [Act.put, List.setIfInBounds_toArray, List.set_cons_zero, List.set_cons_succ]
    refine region_take 15 (some 83) (v := ?_) rfl rfl (by kernel_rfl) (by kernel_rfl) (by kernel_rfl) (fun _ _ _ h => h) (by rfl) ?_ (by assumption) ?_
    rotate_left
    · (intro w hSw; (try dsimp only at hSw); go_simp; try with_reducible rfl)
    try simp only [Act.put, List.setIfInBounds_toArray, List.set_cons_zero, List.set_cons_succ]
    refine region_take 16 (some 84) (v := ?_) rfl rfl (by kernel_rfl) (by kernel_rfl) (by kernel_rfl) (fun _ _ _ h => h) (by rfl) ?_ (by assumption) ?_
    rotate_left
    · (intro w hSw; (try dsimp only at hSw); go_simp; try with_reducible rfl)
    try simp only [Act.put, List.setIfInBounds_toArray, List.set_cons_zero, List.set_cons_succ]
    refine region_take 17 (some 85) (v := ?_) rfl rfl (by kernel_rfl) (by kernel_rfl) (by kernel_rfl) (fun _ _ _ h => h) (by rfl) ?_ (by assumption) ?_
    rotate_left
    · (intro w hSw; (try dsimp only at hSw); go_simp; try with_reducible rfl)
    try simp only [Act.put, List.setIfInBounds_toArray, List.set_cons_zero, List.set_cons_succ]
    refine region_take 18 (some 86) (v := ?_) rfl rfl (by kernel_rfl) (by kernel_rfl) (by kernel_rfl) (fun _ _ _ h => h) (by rfl) ?_ (by assumption) ?_
    rotate_left
    · (intro w hSw; (try dsimp only at hSw); go_simp; try with_reducible rfl)
    try simp only [Act.put, List.setIfInBounds_toArray, List.set_cons_zero, List.set_cons_succ]
    refine region_take 19 (some 87) (v := ?_) rfl rfl (by kernel_rfl) (by kernel_rfl) (by kernel_rfl) (fun _ _ _ h => h) (by rfl) ?_ (by assumption) ?_
    rotate_left
    · (intro w hSw; (try dsimp only at hSw); go_simp; try with_reducible rfl)
    try simp only [Act.put, List.setIfInBounds_toArray, List.set_cons_zero, List.set_cons_succ]
    refine region_take 20 (some 88) (v := ?_) rfl rfl (by kernel_rfl) (by kernel_rfl) (by kernel_rfl) (fun _ _ _ h => h) (by rfl) ?_ (by assumption) ?_
    rotate_left
    · (intro w hSw; (try dsimp only at hSw); go_simp; try with_reducible rfl)
    try simp only [Act.put, List.setIfInBounds_toArray, List.set_cons_zero, List.set_cons_succ]
    refine region_take 21 (some 89) (v := ?_) rfl rfl (by kernel_rfl) (by kernel_rfl) (by kernel_rfl) (fun _ _ _ h => h) (by rfl) ?_ (by assumption) ?_
    rotate_left
    · (intro w hSw; (try dsimp only at hSw); go_simp; try with_reducible rfl)
    try simp only [Act.put, List.setIfInBounds_toArray, List.set_cons_zero, List.set_cons_succ]
    refine region_take 22 (some 90) (v := ?_) rfl rfl (by kernel_rfl) (by kernel_rfl) (by kernel_rfl) (fun _ _ _ h => h) (by rfl) ?_ (by assumption) ?_
    rotate_left
    · (intro w hSw; (try dsimp only at hSw); go_simp; try with_reducible rfl)
    try simp only [Act.put, List.setIfInBounds_toArray, List.set_cons_zero, List.set_cons_succ]
    refine region_take 23 (some 91) (v := ?_) rfl rfl (by kernel_rfl) (by kernel_rfl) (by kernel_rfl) (fun _ _ _ h => h) (by rfl) ?_ (by assumption) ?_
    rotate_left
    · (intro w hSw; (try dsimp only at hSw); go_simp; try with_reducible rfl)
    try simp only [Act.put, List.setIfInBounds_toArray, List.set_cons_zero, List.set_cons_succ]
    refine region_take 24 (some 92) (v := ?_) rfl rfl (by kernel_rfl) (by kernel_rfl) (by kernel_rfl) (fun _ _ _ h => h) (by rfl) ?_ (by assumption) ?_
    rotate_left
    · (intro w hSw; (try dsimp only at hSw); go_simp; try with_reducible rfl)
    try simp only [Act.put, List.setIfInBounds_toArray, List.set_cons_zero, List.set_cons_succ]
    refine region_take 25 (some 93) (v := ?_) rfl rfl (by kernel_rfl) (by kernel_rfl) (by kernel_rfl) (fun _ _ _ h => h) (by rfl) ?_ (by assumption) ?_
    rotate_left
    · (intro w hSw; (try dsimp only at hSw); go_simp; try with_reducible rfl)
    try simp only [Act.put, List.setIfInBounds_toArray, List.set_cons_zero, List.set_cons_succ]
    refine region_take 26 (some 94) (v := ?_) rfl rfl (by kernel_rfl) (by kernel_rfl) (by kernel_rfl) (fun _ _ _ h => h) (by rfl) ?_ (by assumption) ?_
    rotate_left
    · (intro w hSw; (try dsimp only at hSw); go_simp; try with_reducible rfl)
    try simp only [Act.put, List.setIfInBounds_toArray, List.set_cons_zero, List.set_cons_succ]
    refine region_take 27 (some 95) (v := ?_) rfl rfl (by kernel_rfl) (by kernel_rfl) (by kernel_rfl) (fun _ _ _ h => h) (by rfl) ?_ (by assumption) ?_
    rotate_left
    · (intro w hSw; (try dsimp only at hSw); go_simp; try with_reducible rfl)
    try simp only [Act.put, List.setIfInBounds_toArray, List.set_cons_zero, List.set_cons_succ]
    refine region_take 28 (some 96) (v := ?_) rfl rfl (by kernel_rfl) (by kernel_rfl) (by kernel_rfl) (fun _ _ _ h => h) (by rfl) ?_ (by assumption) ?_
    rotate_left
    · (intro w hSw; (try dsimp only at hSw); go_simp; try with_reducible rfl)
    try simp only [Act.put, List.setIfInBounds_toArray, List.set_cons_zero, List.set_cons_succ]
    refine region_take 29 (some 97) (v := ?_) rfl rfl (by kernel_rfl) (by kernel_rfl) (by kernel_rfl) (fun _ _ _ h => h) (by rfl) ?_ (by assumption) ?_
    rotate_left
    · (intro w hSw; (try dsimp only at hSw); go_simp; try with_reducible rfl)
    try simp only [Act.put, List.setIfInBounds_toArray, List.set_cons_zero, List.set_cons_succ]
    refine region_take 30 (some 98) (v := ?_) rfl rfl (by kernel_rfl) (by kernel_rfl) (by kernel_rfl) (fun _ _ _ h => h) (by rfl) ?_ (by assumption) ?_
    rotate_left
    · (intro w hSw; (try dsimp only at hSw); go_simp; try with_reducible rfl)
    try simp only [Act.put, List.setIfInBounds_toArray, List.set_cons_zero, List.set_cons_succ]
    refine region_take 31 (some 99) (v := ?_) rfl rfl (by kernel_rfl) (by kernel_rfl) (by kernel_rfl) (fun _ _ _ h => h) (by rfl) ?_ (by assumption) ?_
    rotate_left
    · (intro w hSw; (try dsimp only at hSw); go_simp; try with_reducible rfl)
    try simp only [Act.put, List.setIfInBounds_toArray, List.set_cons_zero, List.set_cons_succ]
    refine region_take 32 (some 100) (v := ?_) rfl rfl (by kernel_rfl) (by kernel_rfl) (by kernel_rfl) (fun _ _ _ h => h) (by rfl) ?_ (by assumption) ?_
    rotate_left
    · (intro w hSw; (try dsimp only at hSw); go_simp; try with_reducible rfl)
    try simp only [Act.put, List.setIfInBounds_toArray, List.set_cons_zero, List.set_cons_succ]
    refine region_take 33 (some 101) (v := ?_) rfl rfl (by kernel_rfl) (by kernel_rfl) (by kernel_rfl) (fun _ _ _ h => h) (by rfl) ?_ (by assumption) ?_
    rotate_left
    · (intro w hSw; (try dsimp only at hSw); go_simp; try with_reducible rfl)
    try simp only [Act.put, List.setIfInBounds_toArray, List.set_cons_zero, List.set_cons_succ]
    refine region_take 34 (some 4) (v := ?_) rfl rfl (by kernel_rfl) (by kernel_rfl) (by kernel_rfl) (fun _ _ _ h => h) (by rfl) ?_ (by assumption) ?_
    rotate_left
    · (intro w hSw; (try dsimp only at hSw); go_simp; try with_reducible rfl)
    try simp only [Act.put, List.setIfInBounds_toArray, List.set_cons_zero, List.set_cons_succ]
    refine wpAnyH_done (by kernel_rfl) ?_ _
    go_wp2_with fail
    go_ret
    exact ⟨rfl, HB7.out.drew⟩
end Go.Proofs.YthkdpcoacjgomaaDoor
