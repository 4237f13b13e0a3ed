/- The walk of SectBack: it returns true, whatever the input; nothing that was there changes. -/
import Derived.Test.YthkdpcoacjgomaaDoorSecW1
import Derived.Test.YthkdpcoacjgomaaDoorSecW2
set_option linter.unusedVariables false
set_option linter.unusedSimpArgs false
namespace Go.Proofs.YthkdpcoacjgomaaDoor
open Go.RowKit Trx

theorem key_fst (l : List Sc) : (l.map Sc.key).map (·.1) = l.map (·.id) := by rw [List.map_map]; rfl
theorem split_jn (l : List Sc) (hmay : mayJ l = true) (hsz : (jnB l).length ≤ 100000000) : Sect.split (jnB l) = .ok (Sect.pts 8 (l.map Sc.key)) := by
  unfold mayJ at hmay
  rw [Bool.and_eq_true] at hmay
  obtain ⟨h1, h2⟩ := hmay
  have h1' : l.length ≤ 128 := of_decide_eq_true h1
  have h8 : (jnB l).take 8 = Sect.magic := by
    unfold jnB
    exact List.take_left' rfl
  have h9 : (jnB l).drop 8 = Sect.encL (l.map Sc.key) := by
    unfold jnB
    exact List.drop_left' rfl
  unfold Sect.split
  rw [if_pos h8, h9]
  have h := Sect.spl_enc [] (l.map Sc.key) 8 0 0 (by rw [key_fst]; exact h2) (by omega) (by rw [List.length_map]; omega) (fun s hs => by
    obtain ⟨j, hj, hs2⟩ := List.getElem_of_mem hs
    rw [List.length_map] at hj
    have h3 := jnB_mem l j hj
    rw [Sect.encS_length] at h3
    rw [List.getElem_map] at hs2
    rw [hs2] at h3
    omega)
  rw [List.append_nil, Sect.spl_nil] at h
  rw [h]
  simp [Sect.pre]
theorem Split_jn (l : List Sc) (hmay : mayJ l = true) (hsz : (jnB l).length ≤ 100000000) (g c : Nat) (w0 w : World) (h : Lies w0 w g (jnB l)) (hc : (jnB l).length ≤ c) (hm : c ≤ maxLen) :
    Calls Tryd.prog 9 #[.slice (some ⟨g, 0, none⟩) (jnB l).length c] w fun e w' => ∃ A' l' c', e = .returned (.tuple #[.slice A' (List.length l') c', .nilIface]) ∧ l'.map Sc.key = l.map Sc.key ∧ l'.length ≤ c' ∧ c' ≤ maxLen ∧ NewSecs (Win w.heap.size w') w' A' l' ∧ Below w.heap.size w w' := by
  have hs := Split_any (some ⟨g, 0, none⟩) c (jnB l) w h.sl hc hm hsz
  rw [split_jn l hmay hsz] at hs
  refine hs.mono ?_
  rintro e w' ⟨A', l', c', rfl, ht, h1, h2, h3, h4⟩
  refine ⟨A', l', c', rfl, ?_, h1, h2, h3, h4⟩
  rw [keys_of ht, Sect.pts_key]
theorem of_split (bs : List UInt8) (t : List Sect.Pt) (h : Sect.split bs = .ok t) (l : List Sc) (hl : l.map Sc.tr = t.map ptr) : mayJ l = true ∧ (jnB l).length ≤ bs.length ∧ l.length ≤ 128 := by
  obtain ⟨h1, h2, h3, h4, h5⟩ := Sect.split_ok bs t h
  have hk := keys_of hl
  have hid : l.map (·.id) = t.map (·.id) := by
    have := congrArg (List.map fun q : Int × List UInt8 => q.1) hk
    rw [List.map_map, List.map_map] at this
    exact this
  have hlen : l.length = t.length := by simpa using congrArg List.length hl
  refine ⟨?_, ?_, by omega⟩
  · unfold mayJ
    rw [hid, h2]
    simp
    omega
  · unfold jnB
    rw [hk, List.length_append]
    have : Sect.magic.length = 8 := rfl
    omega

set_option maxHeartbeats 16000000 in
set_option maxRecDepth 100000 in
theorem walk_SectBack (A : Option Addr) (c : Nat) (l : List Sc) (Ab : Option Addr) (cb : Nat) (bs : List UInt8) (w : World) (hs : SecsAt w w.heap.size A l) (hl : l.length * 40 ≤ RB) (hsb : Sl w w.heap.size Ab (u8s bs)) (hcb : bs.length ≤ cb) (hmb : cb ≤ maxLen) (hE : Et w) :
    Calls Tryd.prog 5 #[.slice A l.length c, .slice Ab bs.length cb] w fun e w' => e = .returned (.bool true) ∧ Below w.heap.size w w' := by
  have HU := Lib.hid (up_any w hE)
  have HSm := Lib.hid (fun w' (h : Below w.heap.size w w') => small_any l A c w' (hs.later h) hl)
  have HS := Lib.hid hs
  by_cases hbig : (3000 : Int) < bs.length
  · clear hs hE
    go_enter Tryd.func5, Tryd.ntmps5
    go_wp2_with (first | (go_at_call 8; (with_reducible refine HU.out.mono ?_); rintro e w1 ⟨rfl, hb1⟩; have HB1 := Lib.hid hb1; clear hb1))
    with_reducible refine (HSm.out _ HB1.out).mono ?_
    rintro e w2 ⟨ok, rfl, hok, hw2⟩
    subst hw2
    cases ok
    all_goals
      go_wp2_with fail
      go_ret
      exact ⟨rfl, HB1.out⟩
  have hns : (bs.length : Int) ≤ 3000 := by omega
  have hns' : bs.length ≤ 3000 := by omega
  have HG := Lib.hid (fun w' (h : Below w.heap.size w w') => Split_any Ab cb bs w' ((hsb.below h).more h.size) hcb hmb (by omega))
  clear hs hE hsb hbig
  obtain ⟨R, hR⟩ : ∃ R, Sect.split bs = R := ⟨_, rfl⟩
  rw [hR] at HG
  have HR := Lib.hid hR
  clear hR
  go_enter Tryd.func5, Tryd.ntmps5
  go_wp2_with (first | (go_at_call 8; (with_reducible refine HU.out.mono ?_); rintro e w1 ⟨rfl, hb1⟩; have HB1 := Lib.hid hb1; clear hb1))
  with_reducible refine (HSm.out _ HB1.out).mono ?_
  rintro e w2 ⟨ok, rfl, hok, hw2⟩
  subst hw2
  cases ok
  · go_wp2_with fail
    go_ret
    exact ⟨rfl, HB1.out⟩
  obtain ⟨h1, h2⟩ := hok rfl
  have hsz := jnB_small l h1 h2
  have hJ := Join_any l A c w1 (HS.out.later HB1.out) (by omega) (by omega)
  unfold JoinR at hJ
  cases hmay : mayJ l
  · rw [hmay] at hJ
    dsimp only at hJ
    have HJ := Lib.hid hJ
    clear hJ hmay h2 hsz hok
    go_wp2_with (first
      | (go_at_call 14; (with_reducible refine HJ.out.mono ?_); rintro e wA ⟨rfl, hbA⟩; have HBA := Lib.hid (HB1.out.trans (hbA.mono HB1.out.size)); clear hbA))
    have hG := HG.out wA HBA.out
    unfold SplitR at hG
    have HG2 := Lib.hid hG
    clear hG HG
    cases R with
    | error er =>
      obtain ⟨k, p⟩ := er
      dsimp only at HG2
      with_reducible refine HG2.out.mono ?_
      rintro e w5 ⟨v, rfl, ⟨vb, vo, rfl, hv1, hv2⟩, hb5⟩
      have HB5 := Lib.hid (HBA.out.trans (hb5.mono HBA.out.size))
      clear hv1 hv2 hb5
      go_wp2_with fail
      go_ret
      exact ⟨rfl, HB5.out⟩
    | ok t =>
      dsimp only at HG2
      with_reducible refine HG2.out.mono ?_
      rintro e w5 ⟨A5, l5, c5, rfl, ht5, hl5, hm5, hn5, hb5⟩
      obtain ⟨hmay5, hle5, hlen5⟩ := of_split bs t HR.out l5 ht5
      have hB5 := HBA.out.trans (hb5.mono HBA.out.size)
      have hJ5 := Join_any l5 A5 c5 w5 hn5.now (by omega) (by omega)
      unfold JoinR at hJ5
      rw [hmay5] at hJ5
      dsimp only at hJ5
      have HJ5 := Lib.hid hJ5
      have HA5 := Lib.hid hn5.now
      have HB5 := Lib.hid hB5
      have HSJ5 := Lib.hid (fun g c w0 w (h : Lies w0 w g (jnB l5)) hc hm => Split_jn l5 hmay5 (by omega) g c w0 w h hc hm)
      have hle5' : ((jnB l5).length : Int) ≤ bs.length := by omega
      clear ht5 hn5 hb5 hB5 hJ5 hmay5
      go_wp2_with (first
        | (go_at_call 14; (with_reducible refine HJ5.out.mono ?_); rintro e w6 ⟨g6, c6, rfl, hc6, hm6, hl6⟩; have HL6 := Lib.hid hl6; have HC6 := Lib.hid hc6; have HM6 := Lib.hid hm6; have HB56 := Lib.hid hl6.below; have HB6 := Lib.hid (HB5.out.trans (hl6.below.mono HB5.out.size)); clear hl6 hc6 hm6))
      with_reducible refine (HSJ5.out _ _ _ _ HL6.out HC6.out HM6.out).mono ?_
      rintro e w7 ⟨A7, l7, c7, rfl, hk7, hl7, hm7, hn7, hb7⟩
      have hB7 := HB6.out.trans (hb7.mono HB6.out.size)
      have hlen7 : l7.length = l5.length := by simpa using congrArg List.length hk7
      have HSa7 := Lib.hid (Same_same l7 l5 A7 A5 c7 c5 w7 hn7.now (HA5.out.later (HB56.out.trans (hb7.mono HB56.out.size))) hk7 (by omega) l5.length rfl)
      have HB7 := Lib.hid hB7
      clear hk7 hn7 hb7 hB7 hlen7
      go_wp2_with (first
        | (go_at_call 12; (with_reducible refine HSa7.out.mono ?_); rintro e w8 ⟨rfl, hb8⟩; have HB8 := Lib.hid (HB7.out.trans (hb8.mono HB7.out.size)); clear hb8))
      go_ret
      exact ⟨rfl, HB8.out⟩
  · rw [hmay] at hJ
    dsimp only at hJ
    have HJ := Lib.hid hJ
    have HSJ := Lib.hid (fun g c w0 w (h : Lies w0 w g (jnB l)) hc hm => Split_jn l hmay (by omega) g c w0 w h hc hm)
    clear hJ hmay h2 hsz hok
    go_wp2_with (first
      | (go_at_call 14; (with_reducible refine HJ.out.mono ?_); rintro e w3 ⟨g3, c3, rfl, hc3, hm3, hl3⟩; have HL3 := Lib.hid hl3; have HC3 := Lib.hid hc3; have HM3 := Lib.hid hm3; have HB3 := Lib.hid (HB1.out.trans (hl3.below.mono HB1.out.size)); clear hl3 hc3 hm3))
    with_reducible refine (HSJ.out _ _ _ _ HL3.out HC3.out HM3.out).mono ?_
    rintro e w4 ⟨A4, l4, c4, rfl, hk4, hl4, hm4, hn4, hb4⟩
    have hB4 := HB3.out.trans (hb4.mono HB3.out.size)
    have hlen : l4.length = l.length := by simpa using congrArg List.length hk4
    have HSa := Lib.hid (Same_same l4 l A4 A c4 c w4 hn4.now (HS.out.later hB4) hk4 (by omega) l.length rfl)
    have HB4 := Lib.hid hB4
    clear hk4 hn4 hb4 hB4 hlen
    go_wp2_with (first
      | (go_at_call 12; (with_reducible refine HSa.out.mono ?_); rintro e wA ⟨rfl, hbA⟩; have HBA := Lib.hid (HB4.out.trans (hbA.mono HB4.out.size)); clear hbA))
    have hG := HG.out wA HBA.out
    unfold SplitR at hG
    have HG2 := Lib.hid hG
    clear hG HG
    cases R with
    | error er =>
      obtain ⟨k, p⟩ := er
      dsimp only at HG2
      with_reducible refine HG2.out.mono ?_
      rintro e w5 ⟨v, rfl, ⟨vb, vo, rfl, hv1, hv2⟩, hb5⟩
      have HB5 := Lib.hid (HBA.out.trans (hb5.mono HBA.out.size))
      clear hv1 hv2 hb5
      go_wp2_with fail
      go_ret
      exact ⟨rfl, HB5.out⟩
    | ok t =>
      dsimp only at HG2
      with_reducible refine HG2.out.mono ?_
      rintro e w5 ⟨A5, l5, c5, rfl, ht5, hl5, hm5, hn5, hb5⟩
      obtain ⟨hmay5, hle5, hlen5⟩ := of_split bs t HR.out l5 ht5
      have hB5 := HBA.out.trans (hb5.mono HBA.out.size)
      have hJ5 := Join_any l5 A5 c5 w5 hn5.now (by omega) (by omega)
      unfold JoinR at hJ5
      rw [hmay5] at hJ5
      dsimp only at hJ5
      have HJ5 := Lib.hid hJ5
      have HA5 := Lib.hid hn5.now
      have HB5 := Lib.hid hB5
      have HSJ5 := Lib.hid (fun g c w0 w (h : Lies w0 w g (jnB l5)) hc hm => Split_jn l5 hmay5 (by omega) g c w0 w h hc hm)
      have hle5' : ((jnB l5).length : Int) ≤ bs.length := by omega
      clear ht5 hn5 hb5 hB5 hJ5 hmay5
      go_wp2_with (first
        | (go_at_call 14; (with_reducible refine HJ5.out.mono ?_); rintro e w6 ⟨g6, c6, rfl, hc6, hm6, hl6⟩; have HL6 := Lib.hid hl6; have HC6 := Lib.hid hc6; have HM6 := Lib.hid hm6; have HB56 := Lib.hid hl6.below; have HB6 := Lib.hid (HB5.out.trans (hl6.below.mono HB5.out.size)); clear hl6 hc6 hm6))
      with_reducible refine (HSJ5.out _ _ _ _ HL6.out HC6.out HM6.out).mono ?_
      rintro e w7 ⟨A7, l7, c7, rfl, hk7, hl7, hm7, hn7, hb7⟩
      have hB7 := HB6.out.trans (hb7.mono HB6.out.size)
      have hlen7 : l7.length = l5.length := by simpa using congrArg List.length hk7
      have HSa7 := Lib.hid (Same_same l7 l5 A7 A5 c7 c5 w7 hn7.now (HA5.out.later (HB56.out.trans (hb7.mono HB56.out.size))) hk7 (by omega) l5.length rfl)
      have HB7 := Lib.hid hB7
      clear hk7 hn7 hb7 hB7 hlen7
      go_wp2_with (first
        | (go_at_call 12; (with_reducible refine HSa7.out.mono ?_); rintro e w8 ⟨rfl, hb8⟩; have HB8 := Lib.hid (HB7.out.trans (hb8.mono HB7.out.size)); clear hb8))
      go_ret
      exact ⟨rfl, HB8.out⟩
end Go.Proofs.YthkdpcoacjgomaaDoor
