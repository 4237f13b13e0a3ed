/- grommetref02.Chars by its contract, and the walk of NameReads: it returns true, whatever the input; nothing that was there changes. -/
import Derived.Test.YtfefabeamcdihaaDoorNameJ
import Derived.Test.YtfefabeamcdihaaDoorNameC
import Derived.Test.YtfefabeamcdihaaDoorNameMath2
import Derived.Deep.RegionHeld3
namespace Go.Proofs.YtfefabeamcdihaaDoor
open Go.RowKit Go.Lib

theorem i64_cellR {w : World} {B : Nat} {A : Option Addr} {l : List Nat} (hs : Sl w B A (i64s l)) (k : Nat) (h : k < l.length) : ∃ b off, A = some ⟨b, off, none⟩ ∧ w.cell? ⟨b, off + k, none⟩ = some (.int .i64 (l[k] : Nat)) := by
  obtain ⟨b, off, e, _, hc⟩ := hs (by intro e; have := congrArg List.length e; simp at this; simp [this] at h)
  exact ⟨b, off, e, by rw [hc k (by simpa using h), i64s_get l k h]⟩
theorem below_drewN' {B : Nat} {a w : World} (h : Below B a w) (n : Nat) : Below B a (w.drewN n) := ⟨h.os, h.tape, h.output, h.size, h.block⟩
theorem at_int {b off cp n p : Nat} {bs : List UInt8} {w : World} {B : Nat} (hs : Sl w B (some ⟨b, off, none⟩) (u8s bs)) (hB : B ≤ w.heap.size) (hn : bs.length = n) (hc : n ≤ cp) (hm : cp ≤ maxLen) (hlen : n ≤ 1000) (hp : p < n) (v : Value) (hv : atV (bs.drop p) = v) :
    Calls Tryd.prog 18 #[.slice (some ⟨b, off, none⟩) n cp, .int .i64 p] w fun e w' => e = .returned v ∧ Below w.heap.size w w' := by
  subst hn hv
  exact at_any b off cp p bs w (hs.more hB) hc hm hlen hp

/-- what is still to be told, from a place on. -/
def RInv (bs : List UInt8) (p : Nat) (acc : List Nat) : Prop :=
  p ≤ bs.length ∧ acc.length ≤ p ∧ acc ++ (Utf.all (bs.drop p)).1 = (Utf.all bs).1 ∧ (Utf.all bs).2 = (Utf.all (bs.drop p)).2.map (· + p)
theorem RInv.step {bs : List UInt8} {p : Nat} {acc : List Nat} (h : RInv bs p acc) (hp : p < bs.length) (hb : Utf.dec (bs.drop p) ≠ (65533, 1)) :
    RInv bs (p + (Utf.dec (bs.drop p)).2) (acc ++ [(Utf.dec (bs.drop p)).1]) := by
  obtain ⟨h1, h2, h3, h4⟩ := h
  have hl : 1 ≤ (bs.drop p).length := by simp; omega
  have hw := Utf.dec_width (bs.drop p) hl
  have hs := Utf.all_step _ hl hb
  rw [List.length_drop] at hw
  rw [List.drop_drop] at hs
  refine ⟨by omega, by simp; omega, ?_, Utf.step2 hp hb h4⟩
  rw [hs] at h3
  rw [← h3]; simp

/-- what Chars tells. -/
def RefIs (bs : List UInt8) (w0 w : World) (v : Value) : Prop :=
  match (Utf.all bs).2 with
  | some p => v = .tuple #[.slice none 0 0, .int .i64 p] ∧ Below w0.heap.size w0 w
  | none => ∃ s, v = .tuple #[s, .int .i64 (-1)] ∧ Own w0.heap.size w0 w 3 s (i64s (Utf.all bs).1)

set_option maxHeartbeats 4000000 in
set_option maxRecDepth 100000 in
theorem refChars_any (A : Option Addr) (cp : Nat) (bs : List UInt8) (w : World) (hs : Sl w w.heap.size A (u8s bs)) (hc : bs.length ≤ cp) (hm : cp ≤ maxLen) (hlen : bs.length ≤ 1000) :
    Calls Tryd.prog 11 #[.slice A bs.length cp] w fun e w' => ∃ v, e = .returned v ∧ RefIs bs w w' v := by
  have HM := Lib.hid hm
  have HS := Lib.hid hs
  clear hs
  unfold maxLen at hm
  go_enter Tryd.func11, Tryd.ntmps11
  go_wp2
  go_loopw [4, 5] (fun v i wr => ∃ (p : Nat) (acc : List Nat), i = .int .i64 p ∧ Own w.heap.size w wr 3 v (i64s acc) ∧ Hid (RInv bs p acc)) (fun _ i _ => bs.length - (intOf i).toNat)
  case atStart => exact ⟨0, [], rfl, Own.nil_ w w 3 (Below.refl _ _) (Nat.le_refl _), Lib.hid ⟨Nat.zero_le _, Nat.le_refl _, by simp, by simp⟩⟩
  case round =>
    obtain ⟨p, acc, rfl, hown, HI⟩ := hrel
    have hple := HI.out.1
    have hacc := HI.out.2.1
    by_cases hlt : p < bs.length
    · obtain ⟨b, off, rfl, hbl, _⟩ := HS.out (by intro h; have := congrArg List.length h; simp at this; simp [this] at hlt)
      have hlt' : (p : Int) < (bs.length : Int) := by omega
      by_cases hbad : Utf.dec (bs.drop p) = (65533, 1)
      · have hv : atV (bs.drop p) = .tuple #[.int .i64 (-1), .int .i64 0] := by unfold atV; rw [if_pos hbad]
        have HR := Lib.hid (show (Utf.all bs).2 = some p by rw [HI.out.2.2.2, Utf.all_bad _ (by simp; omega) hbad]; simp)
        have HSW := Lib.hid (HS.out.below hown.below)
        have hB := hown.below.size
        go_wp2_with fail
        with_reducible refine (at_int HSW.out hB rfl hc HM.out hlen hlt _ hv).mono ?_
        rintro e w1 ⟨rfl, hb1⟩
        have hbf := hown.below.trans (hb1.mono hown.le)
        clear hown
        go_wp2
        go_ret2
        refine ⟨_, rfl, ?_⟩
        unfold RefIs
        rw [HR.out]
        exact ⟨rfl, hbf⟩
      · have hv : atV (bs.drop p) = .tuple #[.int .i64 ((Utf.dec (bs.drop p)).1 : Nat), .int .i64 ((Utf.dec (bs.drop p)).2 : Nat)] := by unfold atV; rw [if_neg hbad]
        have HI2 := Lib.hid (HI.out.step hlt hbad)
        have HW := Lib.hid (Utf.dec_width (bs.drop p) (by simp; omega))
        have hle := Utf.dec_le (bs.drop p)
        have HSW := Lib.hid (HS.out.below hown.below)
        have hB := hown.below.size
        obtain ⟨x, y, hd⟩ : ∃ x y, Utf.dec (bs.drop p) = (x, y) := ⟨_, _, rfl⟩
        have hwd := HW.out
        rw [hd] at HI2 hle hwd hv
        simp only at hle hwd hv
        obtain ⟨hw1, hw2, hw3⟩ := hwd
        rw [List.length_drop] at hw2
        clear hd hbad HW
        go_wp2_with fail
        with_reducible refine (at_int HSW.out hB rfl hc HM.out hlen hlt _ hv).mono ?_
        rintro e w1 ⟨rfl, hb1⟩
        have hown' := hown.later (hb1.mono (Nat.le_refl _))
        clear hown hb1
        go_wp2_with (at_builtin; refine wpList_push rfl _ _ _ rfl _ 8 Tryd.underlying24 elem_int (by decide) _ _ _ _ _ _ 1 rfl hown' rfl rfl (by simp; omega) ?_; intro v2 w2 hown2)
        go_roundw
        case rel => exact ⟨p + y, acc ++ [x], by go_num, by simpa [i64s] using hown2, HI2⟩
        case measure => simp [intOf]; omega
    · have hpe : p = bs.length := by omega
      have e1 := HI.out.2.2.1
      have e2 := HI.out.2.2.2
      rw [hpe, List.drop_length, Utf.all_nil] at e1 e2
      simp only [List.append_nil, Option.map_none] at e1 e2
      have HE := Lib.hid (And.intro e1 e2)
      have hlt' : ¬ (p : Int) < (bs.length : Int) := by omega
      clear e1 e2 hpe
      go_wp2
      go_ret2
      refine ⟨_, rfl, ?_⟩
      unfold RefIs
      rw [HE.out.2]
      exact ⟨_, rfl, by rw [← HE.out.1]; exact hown⟩

set_option maxHeartbeats 4000000 in
set_option maxRecDepth 100000 in
theorem walk_NameReads (A : Option Addr) (cp : Nat) (bs : List UInt8) (w : World)
    (hs : Sl w w.heap.size A (u8s bs)) (hc : bs.length ≤ cp) (hm : cp ≤ maxLen) (hE : Et w) (hT : U8T w) :
    Calls Tryd.prog 3 #[.slice A bs.length cp] w fun e w' => e = .returned (.bool true) ∧ Below w.heap.size w w' := by
  have HU := Lib.hid (up2_any w hE hT)
  have HM := Lib.hid hm
  have HT := Lib.hid hT
  have HE := Lib.hid hE
  clear hE hT
  unfold maxLen at hm
  by_cases hbig : 1000 < bs.length
  · have hbig' : (1000 : Int) < (bs.length : Int) := by omega
    go_enter Tryd.func3, Tryd.ntmps3
    go_wp2_with fail
    with_reducible refine HU.out.mono ?_
    rintro e w1 ⟨rfl, hb1⟩
    go_wp2
    go_ret
    exact ⟨rfl, hb1⟩
  have hbig' : ¬ (1000 : Int) < (bs.length : Int) := by omega
  have hL := Utf.all_len _ bs (Nat.le_refl _)
  have HRC := Lib.hid fun w' (h : Sl w' w'.heap.size A (u8s bs)) => refChars_any A cp bs w' h hc HM.out (by omega)
  cases hr : (Utf.all bs).2 with
  | some p =>
    have hp9 : (p : Int) ≤ 1000 := by have := Utf.all_place _ bs (Nat.le_refl _) p hr; omega
    go_enter Tryd.func3, Tryd.ntmps3
    go_wp2_with fail
    with_reducible refine HU.out.mono ?_
    rintro e w1 ⟨rfl, hb1⟩
    go_wp2_with fail
    with_reducible refine (charsBad_int (HT.out.below hb1) (hs.below hb1) hb1.size rfl hc HM.out p hr).mono ?_
    rintro e w2 ⟨hb2, v2, rfl, hv2⟩
    have hb2' := hb1.trans (hb2.mono hb1.size)
    have HV2 := Lib.hid hv2
    clear hb2 hv2
    go_wp2_with fail
    with_reducible refine (check_int (HT.out.below hb2') (hs.below hb2') hb2'.size rfl hc HM.out (some p) hr).mono ?_
    rintro e w3 ⟨hb3, v3, rfl, hv3⟩
    have hb3' := hb2'.trans (hb3.mono hb2'.size)
    have HV2' := Lib.hid (HV2.out.below hb3)
    have HV3 := Lib.hid (show SpotIs w3 v3 p 2 from hv3)
    clear hb3 hv3 HV2
    go_wp2_with fail
    with_reducible refine (HRC.out _ ((hs.below hb3').more hb3'.size)).mono ?_
    rintro e w4 ⟨v4, rfl, hv4⟩
    unfold RefIs at hv4
    rw [hr] at hv4
    obtain ⟨rfl, hb4⟩ := hv4
    have hb4' := hb3'.trans (hb4.mono hb3'.size)
    have HV2'' := Lib.hid (HV2'.out.below hb4)
    have HV3' := Lib.hid (HV3.out.below hb4)
    have HE4 := Lib.hid (HE.out.below hb4')
    clear hb4 HV2' HV3 hr
    go_wp2_with fail
    with_reducible refine (isSpot_any v2 p 2 p 2 w4 HE4.out HV2''.out).mono ?_
    rintro e w5 ⟨rfl, hb5⟩
    rw [show (((2 : Int) == 2) && ((p : Int) == (p : Int))) = true by simp]
    have hb5' := hb4'.trans (hb5.mono hb4'.size)
    have HV3'' := Lib.hid (HV3'.out.below hb5)
    have HE5 := Lib.hid (HE4.out.below hb5)
    clear hb5 HV3' HE4
    go_wp2_with fail
    with_reducible refine (isSpot_any v3 p 2 p 2 w5 HE5.out HV3''.out).mono ?_
    rintro e w6 ⟨rfl, hb6⟩
    rw [show (((2 : Int) == 2) && ((p : Int) == (p : Int))) = true by simp]
    have hb6' := hb5'.trans (hb6.mono hb5'.size)
    go_wp2
    go_ret
    exact ⟨rfl, hb6'⟩
  | none =>
    obtain ⟨L, hLL⟩ : ∃ L, Utf.all bs = (L, none) := ⟨_, Prod.ext rfl hr⟩
    rw [hLL] at hL
    simp only at hL
    go_enter Tryd.func3, Tryd.ntmps3
    go_wp2_with fail
    with_reducible refine HU.out.mono ?_
    rintro e w1 ⟨rfl, hb1⟩
    go_wp2_with fail
    with_reducible refine (charsOk_int (HT.out.below hb1) (hs.below hb1) hb1.size rfl hc HM.out (by omega) L hLL).mono ?_
    rintro e w2 ⟨v2, rfl, hown2⟩
    have hb2' := hb1.trans (hown2.below.mono hb1.size)
    obtain ⟨A2, c2, rfl, hc21, hc22, hsl2⟩ := hown2.form
    rw [i64s_length] at hc21 ⊢
    have HS2 := Lib.hid hsl2
    clear hown2 hsl2
    go_wp2_with fail
    with_reducible refine (check_int (HT.out.below hb2') (hs.below hb2') hb2'.size rfl hc HM.out none hr).mono ?_
    rintro e w3 ⟨hb3, v3, rfl, hv3⟩
    have hv3' : v3 = .nilIface := hv3
    subst hv3'
    have hb3' := hb2'.trans (hb3.mono hb2'.size)
    have HS3 := Lib.hid (HS2.out.below hb3)
    have hB3 := hb3.size
    clear hb3 hv3 HS2
    go_wp2_with fail
    with_reducible refine (HRC.out _ ((hs.below hb3').more hb3'.size)).mono ?_
    rintro e w4 ⟨v4, rfl, hv4⟩
    unfold RefIs at hv4
    rw [hr] at hv4
    obtain ⟨s4, rfl, hown4⟩ := hv4
    rw [hLL] at hown4
    obtain ⟨A4, c4, rfl, hc41, hc42, hsl4⟩ := hown4.form
    rw [i64s_length] at hc41 ⊢
    have hb4' := hb3'.trans (hown4.below.mono hb3'.size)
    have HS4 := Lib.hid ((HS3.out.more hB3).below hown4.below)
    have HS5 := Lib.hid hsl4
    clear hown4 hsl4 HS3 hLL hr
    go_wp2
    go_loopw [9] (fun i wr => ∃ (k n : Nat), k ≤ L.length ∧ i = .int .i64 k ∧ wr = w4.drewN n) (fun i _ => L.length - (intOf i).toNat)
    case atStart => exact ⟨0, 0, Nat.zero_le _, rfl, rfl⟩
    case round =>
      obtain ⟨k, n, hk, rfl, rfl⟩ := hrel
      by_cases hlt : k < L.length
      · obtain ⟨b2, o2, ha2, hc2⟩ := i64_cellR (HS4.out.drewN n) k hlt
        obtain ⟨b5, o5, ha5, hc5⟩ := i64_cellR (HS5.out.drewN n) k hlt
        subst ha2 ha5
        have hlt' : (k : Int) < (L.length : Int) := by omega
        obtain ⟨x, hx⟩ : ∃ x, L[k] = x := ⟨_, rfl⟩
        rw [hx] at hc2 hc5
        clear hx
        go_wp2
        go_region_held3 (fun w' => w'.cell? ⟨b2, o2 + k, none⟩ = some (.int .i64 (x : Int)) ∧ w'.cell? ⟨b5, o5 + k, none⟩ = some (.int .i64 (x : Int))) (first | exact ⟨hc2, hc5⟩) (fail)
        all_goals
          go_wp2
          go_roundw
          case rel => exact ⟨k + 1, n + 1, by omega, by go_num, rfl⟩
          case measure => simp [intOf]; omega
      · have hlt' : ¬ (k : Int) < (L.length : Int) := by omega
        go_wp2
        go_ret
        exact ⟨rfl, below_drewN' hb4' _⟩

end Go.Proofs.YtfefabeamcdihaaDoor
