/- The walk of NameParts: it returns true, whatever the input; nothing that was there changes. -/
import Derived.Test.YtfefabeamcdihaaDoorNameC
import Derived.Test.YtfefabeamcdihaaDoorNameMath2
import Derived.Test.YtfefabeamcdihaaDoorOf
namespace Go.Proofs.YtfefabeamcdihaaDoor
open Go.RowKit Go.Lib

theorem u8s_one (bs : List UInt8) : ∀ u ∈ u8s bs, u.oneCell' = true := by
  intro u hu
  simp only [u8s, List.mem_map] at hu
  obtain ⟨b, _, rfl⟩ := hu
  rfl
theorem u8s_append (a b : List UInt8) : u8s (a ++ b) = u8s a ++ u8s b := by simp [u8s]

set_option maxHeartbeats 2000000 in
set_option maxRecDepth 100000 in
theorem walk_NameParts (A1 : Option Addr) (c1 : Nat) (a : List UInt8) (A2 : Option Addr) (c2 : Nat) (b : List UInt8) (w : World)
    (hs1 : Sl w w.heap.size A1 (u8s a)) (hc1 : a.length ≤ c1) (hm1 : c1 ≤ maxLen) (hs2 : Sl w w.heap.size A2 (u8s b)) (hc2 : b.length ≤ c2) (hm2 : c2 ≤ maxLen) (hE : Et w) (hT : U8T w) :
    Calls Tryd.prog 6 #[.slice A1 a.length c1, .slice A2 b.length c2] w fun e w' => e = .returned (.bool true) ∧ Below w.heap.size w w' := by
  have HU := Lib.hid (up2_any w hE hT)
  have HM1 := Lib.hid hm1
  have HM2 := Lib.hid hm2
  have HE := Lib.hid hE
  have HT := Lib.hid hT
  clear hE hT
  unfold maxLen at hm1 hm2
  by_cases hbig : 500 < a.length
  · have hbig' : (500 : Int) < (a.length : Int) := by omega
    go_enter Tryd.func6, Tryd.ntmps6
    go_wp2_with fail
    with_reducible refine HU.out.mono ?_
    rintro e w1 ⟨rfl, hb1⟩
    go_wp2
    go_ret
    exact ⟨rfl, hb1⟩
  have hbig' : ¬ (500 : Int) < (a.length : Int) := by omega
  by_cases hbig2 : 500 < b.length
  · have hbig2' : (500 : Int) < (b.length : Int) := by omega
    go_enter Tryd.func6, Tryd.ntmps6
    go_wp2_with fail
    with_reducible refine HU.out.mono ?_
    rintro e w1 ⟨rfl, hb1⟩
    go_wp2
    go_ret
    exact ⟨rfl, hb1⟩
  have hbig2' : ¬ (500 : Int) < (b.length : Int) := by omega
  have HAPP := Lib.hid (Utf.all_append a.length a b (Nat.le_refl _))
  go_enter Tryd.func6, Tryd.ntmps6
  go_wp2_with fail
  with_reducible refine HU.out.mono ?_
  rintro e w1 ⟨rfl, hb1⟩
  go_wp2_with fail
  with_reducible refine (check_int (HT.out.below hb1) (hs1.below hb1) hb1.size rfl hc1 HM1.out _ rfl).mono ?_
  rintro e w2 ⟨hb2, v2, rfl, hv2⟩
  have hb2' := hb1.trans (hb2.mono hb1.size)
  go_wp2_with fail
  with_reducible refine (check_int (HT.out.below hb2') (hs2.below hb2') hb2'.size rfl hc2 HM2.out _ rfl).mono ?_
  rintro e w3 ⟨hb3, v3, rfl, hv3⟩
  have hb3' := hb2'.trans (hb3.mono hb2'.size)
  have hv2' := hv2.below hb3
  clear hb2 hb3 hv2
  have hemp := Own.empty w3 5
  have hq1 := (hs1.below hb3').below ((Below.refl _ _).alloc hb3'.size (.cells #[] 5))
  go_wp2_with (first
    | (at_builtin; refine wpList_cat rfl (.tmp 27) (.tmp 28) _ rfl _ 1 Tryd.underlying22 elem_u8 (by decide) _ _ _ _ _ _ A1 _ c1 (u8s a) rfl hemp rfl hq1 (by simp) (u8s_one _) (by simp; omega) ?_; intro v4 w4 hown4; have hq2 := hs2.below (hb3'.trans (hown4.below.mono hb3'.size)))
    | (at_builtin; refine wpList_cat rfl (.tmp 29) (.tmp 30) _ rfl _ 1 Tryd.underlying22 elem_u8 (by decide) _ _ _ _ _ _ A2 _ c2 (u8s b) rfl hown4 rfl hq2 (by simp) (u8s_one _) (by simp; omega) ?_; intro v5 w5 hown5))
  have hown5' : Own w3.heap.size w3 w5 5 v5 (u8s (a ++ b)) := by simpa [u8s_append] using hown5
  clear hown5 hown4 hq2
  obtain ⟨A5, c5, rfl, hc51, hc52, hsl5⟩ := hown5'.bytes
  have hb5 := hb3'.trans (hown5'.below.mono hb3'.size)
  have hv2'' := hv2'.below hown5'.below
  have hv3' := hv3.below hown5'.below
  clear hown5' hv2' hv3 hemp hq1
  with_reducible refine (check_int (HT.out.below hb5) hsl5 (Nat.le_refl _) rfl hc51 hc52 _ rfl).mono ?_
  rintro e w6 ⟨hb6, v6, rfl, hv6⟩
  have hb6' := hb5.trans (hb6.mono hb5.size)
  have u2 := Lib.hid (hv2''.below hb6)
  have u3 := Lib.hid (hv3'.below hb6)
  have u6 := Lib.hid hv6
  have HE6 := Lib.hid (HE.out.below hb6')
  clear hb6 hv6 hv2'' hv3' hsl5 hc51 hc52 HT HE
  obtain ⟨ra, hra⟩ : ∃ r, (Utf.all a).2 = r := ⟨_, rfl⟩
  obtain ⟨rb, hrb⟩ : ∃ r, (Utf.all b).2 = r := ⟨_, rfl⟩
  rw [hra] at u2 HAPP
  rw [hrb] at u3
  cases ra with
  | some p =>
    obtain ⟨b', o', rfl, _, _⟩ := (show SpotIs w6 v2 p 2 from u2.out)
    go_wp2
    go_ret
    exact ⟨rfl, hb6'⟩
  | none =>
    have e2 : v2 = .nilIface := u2.out
    subst e2
    rw [HAPP.out rfl, hrb] at u6
    cases rb with
    | none =>
      have e3 : v3 = .nilIface := u3.out
      have e6 : v6 = .nilIface := u6.out
      subst e3 e6
      go_wp2
      go_ret
      exact ⟨rfl, hb6'⟩
    | some p =>
      have s3 := Lib.hid (show SpotIs w6 v3 p (2 : Nat) from u3.out)
      have s6 := Lib.hid (show SpotIs w6 v6 ((p + a.length : Nat) : Int) (2 : Nat) from u6.out)
      obtain ⟨b3, o3, rfl, _, _⟩ := s3.out
      have hp : (p : Int) ≤ 1000 := by have := Utf.all_place _ b (Nat.le_refl _) p hrb; omega
      clear u2 u3 u6 hra hrb HAPP
      go_wp2_with fail
      with_reducible refine (of_spot _ _ 2 w6 (by decide) (by decide) HE6.out s3.out).mono ?_
      rintro e w7 ⟨rfl, hb7⟩
      have s6' := Lib.hid (s6.out.below hb7)
      have HE7 := Lib.hid (HE6.out.below hb7)
      have hb7' := hb6'.trans (hb7.mono hb6'.size)
      go_wp2_with fail
      with_reducible refine (of_spot _ _ 2 w7 (by decide) (by decide) HE7.out s6'.out).mono ?_
      rintro e w8 ⟨rfl, hb8⟩
      have hb8' := hb7'.trans (hb8.mono hb7'.size)
      go_wp2
      go_ret
      exact ⟨rfl, hb8'⟩

end Go.Proofs.YtfefabeamcdihaaDoor
