/- The head of the statements of layer 2 (grommetlaw02.up) returns true; nothing that was there changes. And what grommetlaw02 hands to layer 2, in a caller's words. -/
import Derived.Test.YtfefabeamcdihaaDoorNameB
namespace Go.Proofs.YtfefabeamcdihaaDoor
open Go.RowKit Go.Lib

theorem Utf.up1 : Utf.all [226, 130, 172] = ([8364], none) := by decide
theorem Utf.up2 : Utf.all [192, 128] = ([], some 0) := by decide

/-- a literal slice of bytes. -/
theorem Sl.lit8 (w : World) (bs : List UInt8) (e : TypeId) : Sl (w.alloc (.cells (u8s bs).toArray e)) (w.alloc (.cells (u8s bs).toArray e)).heap.size (some ⟨w.heap.size, 0, none⟩) (u8s bs) := Sl.row w _ e

theorem check_int {A : Option Addr} {n c : Nat} {bs : List UInt8} {w : World} {B : Nat} (hT : U8T w) (hs : Sl w B A (u8s bs)) (hB : B ≤ w.heap.size) (hb : bs.length = n) (hc : n ≤ c) (hm : c ≤ maxLen) (r : Option Nat) (hr : (Utf.all bs).2 = r) :
    Calls Tryd.prog 10 #[.slice A n c] w fun e w' => Below w.heap.size w w' ∧ ∃ v, e = .returned v ∧ NErr w' v r := by
  subst hb hr
  exact check_any A c bs w hT (hs.more hB) hc hm
theorem charsOk_int {A : Option Addr} {n c : Nat} {bs : List UInt8} {w : World} {B : Nat} (hT : U8T w) (hs : Sl w B A (u8s bs)) (hB : B ≤ w.heap.size) (hb : bs.length = n) (hc : n ≤ c) (hm : c ≤ maxLen) (hlen : n ≤ 100000) (l : List Nat) (hr : Utf.all bs = (l, none)) :
    Calls Tryd.prog 9 #[.slice A n c] w fun e w' => ∃ v, e = .returned (.tuple #[v, .nilIface]) ∧ Own w.heap.size w w' 3 v (i64s l) := by
  subst hb
  have := chars_ok A c bs w hT (hs.more hB) hc hm hlen (by rw [hr])
  rw [hr] at this
  exact this
theorem charsBad_int {A : Option Addr} {n c : Nat} {bs : List UInt8} {w : World} {B : Nat} (hT : U8T w) (hs : Sl w B A (u8s bs)) (hB : B ≤ w.heap.size) (hb : bs.length = n) (hc : n ≤ c) (hm : c ≤ maxLen) (p : Nat) (hr : (Utf.all bs).2 = some p) :
    Calls Tryd.prog 9 #[.slice A n c] w fun e w' => Below w.heap.size w w' ∧ ∃ v, e = .returned (.tuple #[.slice none 0 0, v]) ∧ SpotIs w' v p 2 := by
  subst hb
  exact chars_bad A c bs w hT (hs.more hB) hc hm p hr

set_option maxHeartbeats 1000000 in
set_option maxRecDepth 100000 in
theorem up2_any (w : World) (hE : Et w) (hT : U8T w) : Calls Tryd.prog 8 #[] w fun e w' => e = .returned (.bool true) ∧ Below w.heap.size w w' := by
  have hb0 : Below w.heap.size w (w.alloc (.cells #[.int .u8 226, .int .u8 130, .int .u8 172] 5)) := (Below.refl _ _).alloc (Nat.le_refl _) _
  have HC := Lib.hid (charsOk_int (n := 3) (c := 3) (hT.below hb0) (Sl.lit8 w [226, 130, 172] 5) (Nat.le_refl _) rfl (Nat.le_refl _) (by decide) (by decide) _ Utf.up1)
  have HK := Lib.hid fun (w : World) (hT : U8T w) => check_int (n := 2) (c := 2) (hT.below ((Below.refl _ _).alloc (Nat.le_refl _) (.cells #[.int .u8 192, .int .u8 128] 5))) (Sl.lit8 w [192, 128] 5) (Nat.le_refl _) rfl (Nat.le_refl _) (by decide) (some 0) (by rw [Utf.up2])
  have HT := Lib.hid hT
  have HE := Lib.hid hE
  clear hT hE
  go_enter Tryd.func8, Tryd.ntmps8
  go_wp2_with fail
  with_reducible refine HC.out.mono ?_
  rintro e w1 ⟨v1, rfl, hown⟩
  have hb1 := hb0.trans (hown.below.mono (by simp))
  obtain ⟨g, c1, rfl, _, hg2, hc1, hc2, hcell, _⟩ := hown.at_ (by decide)
  have hc0 := hcell 0 (by decide)
  have hc0' : w1.cell? ⟨g, 0, none⟩ = some (.int .i64 8364) := hc0
  clear hcell hc0 hown HC
  have hl1 : (i64s [8364]).length = 1 := rfl
  rw [hl1] at hc1 ⊢
  go_wp2_with fail
  with_reducible refine (HK.out w1 (HT.out.below hb1)).mono ?_
  rintro e w2 ⟨hb2, v2, rfl, hv⟩
  have hb3 : Below w1.heap.size w1 w2 := ((Below.refl _ _).alloc (Nat.le_refl _) _).trans (hb2.mono (by simp))
  have hc0 := (hb3.cell (p := ⟨g, 0, none⟩) hg2).trans hc0'
  have hb4 := hb1.trans (hb3.mono hb1.size)
  have HV := Lib.hid (show SpotIs w2 v2 (0 : Nat) 2 from hv)
  have HE2 := Lib.hid (HE.out.below hb4)
  clear hv HK HT HE hc0'
  go_wp2_with fail
  with_reducible refine (isSpot_any v2 (0 : Nat) 2 0 2 w2 HE2.out HV.out).mono ?_
  rintro e w3 ⟨rfl, hb5⟩
  have hb6 := hb4.trans (hb5.mono hb4.size)
  go_wp2
  go_ret
  exact ⟨rfl, hb6⟩

end Go.Proofs.YtfefabeamcdihaaDoor
