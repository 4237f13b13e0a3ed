/- The walk of NameBack: it returns true, whatever the input; nothing that was there changes. -/
import Derived.Test.YtfefabeamcdihaaDoorNameC
import Derived.Test.YtfefabeamcdihaaDoorNameMath2
namespace Go.Proofs.YtfefabeamcdihaaDoor
open Go.RowKit Go.Lib

theorem u8s_one' (bs : List UInt8) : ∀ u ∈ u8s bs, u.oneCell' = true := by
  intro u hu
  simp only [u8s, List.mem_map] at hu
  obtain ⟨b, _, rfl⟩ := hu
  rfl
theorem u8s_append' (a b : List UInt8) : u8s (a ++ b) = u8s a ++ u8s b := by simp [u8s]
theorem i64_cell {w : World} {B : Nat} {A : Option Addr} {l : List Nat} (hs : Sl w B A (i64s l)) (k : Nat) (h : k < l.length) : ∃ b off, A = some ⟨b, off, none⟩ ∧ w.cell? ⟨b, off + k, none⟩ = some (.int .i64 (l[k] : Nat)) := by
  obtain ⟨b, off, e, _, hc⟩ := hs (by intro e; have := congrArg List.length e; simp at this; simp [this] at h)
  exact ⟨b, off, e, by rw [hc k (by simpa using h), i64s_get l k h]⟩

set_option maxHeartbeats 4000000 in
set_option maxRecDepth 100000 in
theorem walk_NameBack (c : Int) (A : Option Addr) (cp : Nat) (bs : List UInt8) (w : World) (hw : (Lit.int .i64 c).wf = true)
    (hs : Sl w w.heap.size A (u8s bs)) (hc : bs.length ≤ cp) (hm : cp ≤ maxLen) (hE : Et w) (hT : U8T w) :
    Calls Tryd.prog 5 #[.int .i64 c, .slice A bs.length cp] w fun e w' => e = .returned (.bool true) ∧ Below w.heap.size w w' := by
  have HU := Lib.hid (up2_any w hE hT)
  have HM := Lib.hid hm
  have HT := Lib.hid hT
  clear hE hT
  unfold maxLen at hm
  by_cases hbig : 1000 < bs.length
  · have hbig' : (1000 : Int) < (bs.length : Int) := by omega
    go_enter Tryd.func5, Tryd.ntmps5
    go_wp2_with fail
    with_reducible refine HU.out.mono ?_
    rintro e w1 ⟨rfl, hb1⟩
    go_wp2
    go_ret
    exact ⟨rfl, hb1⟩
  have hbig' : ¬ (1000 : Int) < (bs.length : Int) := by omega
  have hL := Utf.all_len _ bs (Nat.le_refl _)
  have HF := Lib.hid (Utf.all_enc _ bs (Nat.le_refl _))
  have HCH := Lib.hid (Utf.all_chars _ bs (Nat.le_refl _))
  cases hq : (decide (0 ≤ c) && Utf.char c.toNat) with
  | false =>
    have HB := Lib.hid fun w => put_bad c w hw hq
    clear hq hw
    go_enter Tryd.func5, Tryd.ntmps5
    go_wp2_with fail
    with_reducible refine HU.out.mono ?_
    rintro e w1 ⟨rfl, hb1⟩
    go_wp2_with fail
    with_reducible refine (HB.out _).mono ?_
    rintro e w2 ⟨rfl, rfl⟩
    go_wp2_with fail
    have HTn := Lib.hid (HT.out.below hb1)
    have hsn := hs.below hb1
    cases hr : (Utf.all bs).2 with
    | some p =>
      with_reducible refine (charsBad_int HTn.out hsn hb1.size rfl hc HM.out p hr).mono ?_
      rintro e w3 ⟨hb3, v3, rfl, ⟨b3, o3, rfl, _, _⟩⟩
      have hb3' := hb1.trans (hb3.mono hb1.size)
      go_wp2
      go_ret
      exact ⟨rfl, hb3'⟩
    | none =>
      obtain ⟨L, hLL⟩ : ∃ L, Utf.all bs = (L, none) := ⟨_, Prod.ext rfl hr⟩
      with_reducible refine (charsOk_int HTn.out hsn hb1.size rfl hc HM.out (by omega) L hLL).mono ?_
      rintro e wC ⟨vC, rfl, hownC⟩
      have hbC := hb1.trans (hownC.below.mono hb1.size)
      have hF := HF.out hr
      rw [hLL] at hL hF HCH
      have HFF := Lib.hid hF
      obtain ⟨AC, cC, rfl, hcC1, hcC2, hslC⟩ := hownC.form
      rw [i64s_length] at hcC1 ⊢
      have HSL := Lib.hid hslC
      clear hr hLL hownC hF hslC
      go_wp2
      go_loopw [12, 13] (fun v i wr => ∃ k : Nat, k ≤ L.length ∧ i = .int .i64 k ∧ Own wC.heap.size wC wr 5 v (u8s ((L.take k).flatMap Utf.enc))) (fun _ i _ => L.length - (intOf i).toNat)
      case atStart => exact ⟨0, Nat.zero_le _, rfl, by simpa [u8s] using Own.nil_ wC wC 5 (Below.refl _ _) (Nat.le_refl _)⟩
      case round =>
        obtain ⟨k, hk, rfl, hown⟩ := hrel
        by_cases hlt : k < L.length
        · obtain ⟨g, off, hA, hcell⟩ := i64_cell (HSL.out.below hown.below) k hlt
          subst hA
          have hch := HCH.out L[k] (List.getElem_mem _)
          have hfl := Utf.flat_take L k hlt
          have hfn := Utf.flat_len (L.take k)
          have HP := Lib.hid fun w => put_ok L[k] w hch
          have hen := Utf.enc_len L[k]
          rw [List.length_take] at hfn
          obtain ⟨x, hx⟩ : ∃ x, L[k] = x := ⟨_, rfl⟩
          rw [hx] at hcell HP hfl hen
          have hx9 : (x : Int) ≤ 1114111 := by rw [hx] at hch; simp [Utf.char] at hch; omega
          have HFL := Lib.hid hfl
          clear hx hch hfl
          go_wp2_with fail
          with_reducible refine (HP.out _).mono ?_
          rintro e w5 ⟨v5, rfl, hown5⟩
          obtain ⟨A5, c5, rfl, _, _, hsl5⟩ := hown5.bytes
          have hown' := hown.later hown5.below
          clear hown5 hown HP
          go_wp2_with (at_builtin; refine wpList_cat rfl _ _ _ rfl _ 1 Tryd.underlying22 elem_u8 (by decide) _ _ _ _ _ _ A5 _ c5 (u8s (Utf.enc x)) rfl hown' rfl hsl5 (by simp) (u8s_one' _) (by simp at hfn ⊢; omega) ?_; intro v6 w6 hown6)
          go_roundw
          case rel => exact ⟨k + 1, by omega, by go_num, by rw [HFL.out, u8s_append']; exact hown6⟩
          case measure => simp [intOf]; omega
        · have hkk : k = L.length := by omega
          subst hkk
          rw [List.take_length, HFF.out] at hown
          obtain ⟨A7, c7, rfl, _, _, hsl7⟩ := hown.bytes
          have hbf := hbC.trans (hown.below.mono hbC.size)
          have hcv1 := run_str_of (P := Tryd.prog) 22 9 5 Tryd.underlying22 Tryd.underlying5 Tryd.underlying9 hsl7 c7
          have hcv2 := run_str_of (P := Tryd.prog) 22 9 5 Tryd.underlying22 Tryd.underlying5 Tryd.underlying9 (hs.below hbf) cp
          clear hown hsl7
          go_wp2
          go_ret
          exact ⟨rfl, hbf⟩
  | true =>
    have hq' : 0 ≤ c ∧ Utf.char c.toNat = true := by simpa using hq
    obtain ⟨r, rfl⟩ := Int.eq_ofNat_of_zero_le hq'.1
    have hr : Utf.char r = true := hq'.2
    have HP0 := Lib.hid fun w => put_ok r w hr
    have HO := Lib.hid (Utf.all_enc_one r hr)
    have hlen := Utf.enc_len r
    have hr9 : (r : Int) ≤ 1114111 := by simp [Utf.char] at hr; omega
    obtain ⟨en, hen⟩ : ∃ en, Utf.enc r = en := ⟨_, rfl⟩
    rw [hen] at HP0 HO hlen
    clear hq hq' hw hr hen
    go_enter Tryd.func5, Tryd.ntmps5
    go_wp2_with fail
    with_reducible refine HU.out.mono ?_
    rintro e w1 ⟨rfl, hb1⟩
    go_wp2_with fail
    with_reducible refine (HP0.out _).mono ?_
    rintro e w2 ⟨v2, rfl, hown2⟩
    obtain ⟨A2, c2, rfl, hc21, hc22, hsl2⟩ := hown2.bytes
    have hb2 := hb1.trans (hown2.below.mono hb1.size)
    clear hown2
    go_wp2_with fail
    with_reducible refine (charsOk_int (HT.out.below hb2) hsl2 (Nat.le_refl _) rfl hc21 hc22 (by omega) _ HO.out).mono ?_
    rintro e w3 ⟨v3, rfl, hown3⟩
    have hb3 := hb2.trans (hown3.below.mono hb2.size)
    obtain ⟨g3, c3, rfl, _, hg2, hc31, hc32, hcell3, _⟩ := hown3.at_ (by simp)
    have hc0 : w3.cell? ⟨g3, 0, none⟩ = some (.int .i64 (r : Int)) := (hcell3 0 (by simp)).trans rfl
    have hl1 : (i64s [r]).length = 1 := rfl
    rw [hl1] at hc31 ⊢
    clear hown3 hcell3 hsl2 hc21 hc22 HO HP0 hl1
    go_wp2_with fail
    have HTn := Lib.hid (HT.out.below hb3)
    have hsn := hs.below hb3
    cases hr : (Utf.all bs).2 with
    | some p =>
      with_reducible refine (charsBad_int HTn.out hsn hb3.size rfl hc HM.out p hr).mono ?_
      rintro e w4 ⟨hb4, v4, rfl, ⟨b4, o4, rfl, _, _⟩⟩
      have hb4' := hb3.trans (hb4.mono hb3.size)
      go_wp2
      go_ret
      exact ⟨rfl, hb4'⟩
    | none =>
      obtain ⟨L, hLL⟩ : ∃ L, Utf.all bs = (L, none) := ⟨_, Prod.ext rfl hr⟩
      with_reducible refine (charsOk_int HTn.out hsn hb3.size rfl hc HM.out (by omega) L hLL).mono ?_
      rintro e wC ⟨vC, rfl, hownC⟩
      have hbC := hb3.trans (hownC.below.mono hb3.size)
      have hF := HF.out hr
      rw [hLL] at hL hF HCH
      have HFF := Lib.hid hF
      obtain ⟨AC, cC, rfl, hcC1, hcC2, hslC⟩ := hownC.form
      rw [i64s_length] at hcC1 ⊢
      have HSL := Lib.hid hslC
      clear hr hLL hownC hF hslC hc0
      go_wp2
      go_loopw [12, 13] (fun v i wr => ∃ k : Nat, k ≤ L.length ∧ i = .int .i64 k ∧ Own wC.heap.size wC wr 5 v (u8s ((L.take k).flatMap Utf.enc))) (fun _ i _ => L.length - (intOf i).toNat)
      case atStart => exact ⟨0, Nat.zero_le _, rfl, by simpa [u8s] using Own.nil_ wC wC 5 (Below.refl _ _) (Nat.le_refl _)⟩
      case round =>
        obtain ⟨k, hk, rfl, hown⟩ := hrel
        by_cases hlt : k < L.length
        · obtain ⟨g, off, hA, hcell⟩ := i64_cell (HSL.out.below hown.below) k hlt
          subst hA
          have hch := HCH.out L[k] (List.getElem_mem _)
          have hfl := Utf.flat_take L k hlt
          have hfn := Utf.flat_len (L.take k)
          have HP := Lib.hid fun w => put_ok L[k] w hch
          have hen := Utf.enc_len L[k]
          rw [List.length_take] at hfn
          obtain ⟨x, hx⟩ : ∃ x, L[k] = x := ⟨_, rfl⟩
          rw [hx] at hcell HP hfl hen
          have hx9 : (x : Int) ≤ 1114111 := by rw [hx] at hch; simp [Utf.char] at hch; omega
          have HFL := Lib.hid hfl
          clear hx hch hfl
          go_wp2_with fail
          with_reducible refine (HP.out _).mono ?_
          rintro e w5 ⟨v5, rfl, hown5⟩
          obtain ⟨A5, c5, rfl, _, _, hsl5⟩ := hown5.bytes
          have hown' := hown.later hown5.below
          clear hown5 hown HP
          go_wp2_with (at_builtin; refine wpList_cat rfl _ _ _ rfl _ 1 Tryd.underlying22 elem_u8 (by decide) _ _ _ _ _ _ A5 _ c5 (u8s (Utf.enc x)) rfl hown' rfl hsl5 (by simp) (u8s_one' _) (by simp at hfn ⊢; omega) ?_; intro v6 w6 hown6)
          go_roundw
          case rel => exact ⟨k + 1, by omega, by go_num, by rw [HFL.out, u8s_append']; exact hown6⟩
          case measure => simp [intOf]; omega
        · have hkk : k = L.length := by omega
          subst hkk
          rw [List.take_length, HFF.out] at hown
          obtain ⟨A7, c7, rfl, _, _, hsl7⟩ := hown.bytes
          have hbf := hbC.trans (hown.below.mono hbC.size)
          have hcv1 := run_str_of (P := Tryd.prog) 22 9 5 Tryd.underlying22 Tryd.underlying5 Tryd.underlying9 hsl7 c7
          have hcv2 := run_str_of (P := Tryd.prog) 22 9 5 Tryd.underlying22 Tryd.underlying5 Tryd.underlying9 (hs.below hbf) cp
          clear hown hsl7
          go_wp2
          go_ret
          exact ⟨rfl, hbf⟩

end Go.Proofs.YtfefabeamcdihaaDoor
