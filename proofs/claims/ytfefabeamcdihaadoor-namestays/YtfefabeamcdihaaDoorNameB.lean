/- Contracts of name.Chars and name.Put: what each tells, for every input in its range. -/
import Derived.Test.YtfefabeamcdihaaDoorNameA
import Derived.OpenShut
import Derived.WalkArith
namespace Go.Proofs.YtfefabeamcdihaaDoor
open Go.RowKit Go.Lib

/-- numbers as cells. -/
def i64s (l : List Nat) : List Value := l.map fun (c : Nat) => .int .i64 (c : Int)
@[simp] theorem i64s_length (l : List Nat) : (i64s l).length = l.length := by simp [i64s]
theorem i64s_get (l : List Nat) (i : Nat) (h : i < l.length) : (i64s l)[i]? = some (.int .i64 (l[i] : Nat)) := by simp [i64s, h]
theorem elem_int : Elem Tryd.prog 3 8 := Elem.mk_ (z := .int .i64 0) (by kernel_rfl) rfl

theorem Own.rebase {B B' : Nat} {w0 w1 w : World} {e : TypeId} {v : Value} {xs : List Value} (h : Own B w1 w e v xs) (hB : B' ≤ B) (hb : Below B' w0 w1) : Own B' w0 w e v xs := by
  refine ⟨⟨h.row.1, ?_⟩, hb.trans (h.below.mono hB), Nat.le_trans hB h.le⟩
  rcases h.row.2 with h1 | ⟨g, cap, cur, h1, h2, h3⟩
  · exact .inl h1
  · exact .inr ⟨g, cap, cur, h1, Nat.le_trans hB h2, h3⟩
/-- the string's iterator goes on; a row of the call's own, behind it, stays. -/
theorem Own.iterAt {w1 w : World} {s : ByteArray} {p : Nat} {e : TypeId} {v : Value} {xs : List Value} (h : Own (w1.heap.size + 1) (w1.iter s p) w e v xs) (q : Nat) :
    Own (w1.heap.size + 1) (w1.iter s q) (w.iterAt w1.heap.size s q) e v xs := by
  have hsz : (w.iterAt w1.heap.size s q).heap.size = w.heap.size := by simp [World.iterAt]
  refine ⟨⟨h.row.1, ?_⟩, ⟨h.below.os, h.below.tape, h.below.output, ?_, ?_⟩, by rw [hsz]; exact h.le⟩
  · rcases h.row.2 with h1 | ⟨g, cap, cur, h1, h2, h3, h4⟩
    · exact .inl h1
    · refine .inr ⟨g, cap, cur, h1, h2, ?_, h4⟩
      simp only [World.iterAt]
      rw [Array.getElem?_setIfInBounds_ne (by omega)]
      exact h3
  · rw [hsz]; have := h.below.size; simpa [World.iter] using this
  · intro k hk
    have hle := h.le
    rcases Nat.lt_or_ge k w1.heap.size with h1 | h1
    · simp only [World.iterAt]
      rw [Array.getElem?_setIfInBounds_ne (by omega), h.below.block k hk]
      simp only [World.iter]
      rw [Below.heap_alloc _ _ _ h1, Below.heap_alloc _ _ _ h1]
    · have : k = w1.heap.size := by omega
      subst this
      have e1 : (w1.iter s q).heap[w1.heap.size]? = some (.stringIter s q) := World.iter_heap w1 s q
      rw [e1]
      simp only [World.iterAt]
      rw [Array.getElem?_setIfInBounds_self_of_lt (by omega)]
theorem Own.iterNow {w1 w : World} {s : ByteArray} {p : Nat} {e : TypeId} {v : Value} {xs : List Value} (h : Own (w1.heap.size + 1) (w1.iter s p) w e v xs) :
    w.heap[w1.heap.size]? = some (.stringIter s p) := (h.below.block w1.heap.size (by omega)).trans (World.iter_heap w1 s p)

theorem Utf.get_at (bs : List UInt8) (p k : Nat) : ((⟨bs.toArray⟩ : ByteArray).get! (p + k)).toNat = Utf.at_ (bs.drop p) k := by
  simp [ByteArray.get!, Utf.at_, List.getD]
  rw [← List.getD_eq_getElem?_getD, List.getD_eq_getElem?_getD]
  rfl
theorem Utf.decode_is (bs : List UInt8) (p : Nat) : Utf8.decode ⟨bs.toArray⟩ p = Utf.dec (bs.drop p) := by
  rw [Lib.decode_at]
  have h0 := Utf.get_at bs p 0
  rw [Nat.add_zero] at h0
  rw [h0, Utf.get_at, Utf.get_at, Utf.get_at]
  unfold Utf.dec
  rw [List.length_drop]
  rfl

/-- the characters that are still to be told. -/
def Chars.Inv (bs : List UInt8) (p : Nat) (acc : List Nat) : Prop := p ≤ bs.length ∧ acc.length ≤ p ∧ acc ++ (Utf.all (bs.drop p)).1 = (Utf.all bs).1 ∧ (Utf.all (bs.drop p)).2 = none
theorem Chars.Inv.step {bs : List UInt8} {p : Nat} {acc : List Nat} (h : Chars.Inv bs p acc) (hp : p < bs.length) :
    Chars.Inv bs (p + (Utf.dec (bs.drop p)).2) (acc ++ [(Utf.dec (bs.drop p)).1]) := by
  obtain ⟨h1, h2, h3, h4⟩ := h
  have hl : 1 ≤ (bs.drop p).length := by simp; omega
  have hw := Utf.dec_width (bs.drop p) hl
  have hb : Utf.dec (bs.drop p) ≠ (65533, 1) := fun e => by rw [Utf.all_bad _ hl e] at h4; cases h4
  have hs := Utf.all_step _ hl hb
  rw [List.length_drop] at hw
  rw [List.drop_drop] at hs
  rw [hs] at h3 h4
  refine ⟨by omega, by simp; omega, by rw [← h3]; simp, by simpa using h4⟩

set_option maxHeartbeats 1000000 in
set_option maxRecDepth 100000 in
theorem chars_ok (A : Option Addr) (c : Nat) (bs : List UInt8) (w : World) (hT : U8T w) (hs : Sl w w.heap.size A (u8s bs)) (hc : bs.length ≤ c) (hm : c ≤ maxLen) (hlen : bs.length ≤ 100000) (h : (Utf.all bs).2 = none) :
    Calls Tryd.prog 9 #[.slice A bs.length c] w fun e w' => ∃ v, e = .returned (.tuple #[v, .nilIface]) ∧ Own w.heap.size w w' 3 v (i64s (Utf.all bs).1) := by
  have HC := Lib.hid (check_any A c bs w hT hs hc hm)
  have hI : Chars.Inv bs 0 [] := ⟨Nat.zero_le _, Nat.le_refl _, by simp, by simpa using h⟩
  have HI := Lib.hid hI
  have HH := Lib.hid h
  have HS := Lib.hid hs
  clear h hI
  go_enter Tryd.func9, Tryd.ntmps9
  go_wp2_with fail
  with_reducible refine HC.out.mono ?_
  rintro e w1 ⟨hb, v, rfl, hv⟩
  rw [HH.out] at hv
  have hv' : v = .nilIface := hv
  subst hv'
  clear hv HC HH
  have hcv := run_str_of (P := Tryd.prog) 22 9 5 Tryd.underlying22 Tryd.underlying5 Tryd.underlying9 (HS.out.below hb) c
  have hsz : (⟨bs.toArray⟩ : ByteArray).size = bs.length := rfl
  have HD := Lib.hid (Utf.decode_is bs)
  obtain ⟨s, hss⟩ : ∃ s : ByteArray, (⟨bs.toArray⟩ : ByteArray) = s := ⟨_, rfl⟩
  rw [hss] at hcv hsz HD
  clear hss
  have HZ := Lib.hid hsz
  clear hsz
  go_wp2
  go_loopw [5] (fun l wr => ∃ (p : Nat) (acc : List Nat), Own (w1.heap.size + 1) (w1.iter s p) wr 3 l (i64s acc) ∧ Hid (Chars.Inv bs p acc)) (fun _ wr => bs.length - wr.iterPos w1.heap.size)
  case atStart => exact ⟨0, [], Own.nil_ _ _ _ (Below.refl _ _) (by simp [World.iter]), HI⟩
  case round =>
    obtain ⟨p, acc, hown, HP⟩ := hrel
    by_cases hlt : p < s.size
    · have hnx : ∀ ty, (Instr.next (.pointer (some ⟨w1.heap.size, 0, none⟩)) true ty).run Tryd.prog _ = _ := fun ty => run_next_any_at (P := Tryd.prog) _ w1.heap.size s p ty hown.iterNow hlt
      rw [HD.out p] at hnx
      have hlt' : p < bs.length := by rw [← HZ.out]; exact hlt
      have hown' := hown.iterAt (p + (Utf.dec (bs.drop p)).2)
      have HP' := Lib.hid (HP.out.step hlt')
      have hacc := HP.out.2.1
      have hle := Utf.dec_le (bs.drop p)
      have HW := Lib.hid (Utf.dec_width (bs.drop p) (by simp; omega))
      have hit := hown.iterNow
      obtain ⟨x, y, hd⟩ : ∃ x y, Utf.dec (bs.drop p) = (x, y) := ⟨_, _, rfl⟩
      rw [hd] at hnx hown' HP' hle HW
      simp only at hnx hown' hle
      clear hd
      go_wp2_with (at_builtin; refine wpList_push rfl _ _ _ rfl _ 8 Tryd.underlying24 elem_int (by decide) _ _ _ _ _ _ 1 rfl hown' rfl rfl (by simp; omega) ?_; intro v' w' hown2)
      go_roundw
      case rel => exact ⟨p + y, acc ++ [x], by simpa [i64s] using hown2, HP'⟩
      case measure =>
        have e1 := hown2.iterNow
        have e2 := HW.out
        simp [World.iterPos, e1, hit]
        simp at e2
        omega
    · have hnx : ∀ ty, (Instr.next (.pointer (some ⟨w1.heap.size, 0, none⟩)) true ty).run Tryd.prog _ = _ := fun ty => run_next_end_at (P := Tryd.prog) _ w1.heap.size s p ty hown.iterNow hlt
      go_wp2
      go_ret2
      refine ⟨_, rfl, ?_⟩
      have hp : p = bs.length := by have := HP.out.1; have := HZ.out; omega
      have e := HP.out.2.2.1
      rw [hp, List.drop_length, Utf.all_nil] at e
      simp only [List.append_nil] at e
      rw [← e]
      exact hown.rebase (by have := hb.size; omega) (hb.trans (((Below.refl _ _).alloc (Nat.le_refl _) _).mono hb.size))

set_option maxHeartbeats 1000000 in
set_option maxRecDepth 100000 in
theorem chars_bad (A : Option Addr) (c : Nat) (bs : List UInt8) (w : World) (hT : U8T w) (hs : Sl w w.heap.size A (u8s bs)) (hc : bs.length ≤ c) (hm : c ≤ maxLen) (p : Nat) (h : (Utf.all bs).2 = some p) :
    Calls Tryd.prog 9 #[.slice A bs.length c] w fun e w' => Below w.heap.size w w' ∧ ∃ v, e = .returned (.tuple #[.slice none 0 0, v]) ∧ SpotIs w' v p 2 := by
  have HC := Lib.hid (check_any A c bs w hT hs hc hm)
  have HH := Lib.hid h
  clear h hs
  go_enter Tryd.func9, Tryd.ntmps9
  go_wp2_with fail
  with_reducible refine HC.out.mono ?_
  rintro e w1 ⟨hb, v, rfl, hv⟩
  rw [HH.out] at hv
  have HV := Lib.hid (show SpotIs w1 v p 2 from hv)
  obtain ⟨b, o, rfl, _, _⟩ := HV.out
  clear hv HC HH
  go_wp2
  go_ret2
  exact ⟨hb, _, rfl, HV.out⟩

set_option maxRecDepth 100000 in
theorem isChar_any (c : Int) (w : World) (hw : (Lit.int .i64 c).wf = true) :
    Calls Tryd.prog 21 #[.int .i64 c] w fun e w' => e = .returned (.bool (decide (0 ≤ c) && Utf.char c.toNat)) ∧ w = w' := by
  obtain ⟨b1, b2⟩ := bounds_i64 hw
  clear hw
  by_cases h1 : c < 0
  · rw [show (decide (0 ≤ c) && Utf.char c.toNat) = false by simp; omega]
    go_enter Tryd.func21, Tryd.ntmps21
    go_wp2
    go_ret
    exact ⟨rfl, rfl⟩
  · obtain ⟨r, rfl⟩ := Int.eq_ofNat_of_zero_le (show 0 ≤ c by omega)
    by_cases h2 : r ≤ 1114111
    · rw [show (decide (0 ≤ (r : Int)) && Utf.char (r : Int).toNat) = Utf.char r by simp]
      have h2' : (r : Int) ≤ 1114111 := by omega
      have H := Lib.hid fun w => validRune_any r w h2
      go_enter Tryd.func21, Tryd.ntmps21
      go_wp2_with (go_at_call 31; refine (H.out _).mono ?_; rintro e w' ⟨rfl, rfl⟩)
      go_ret
      exact ⟨rfl, rfl⟩
    · rw [show (decide (0 ≤ (r : Int)) && Utf.char (r : Int).toNat) = false by simp [Utf.char]; omega]
      have h2' : ¬ (r : Int) ≤ 1114111 := by omega
      go_enter Tryd.func21, Tryd.ntmps21
      go_wp2
      go_ret
      exact ⟨rfl, rfl⟩

set_option maxRecDepth 100000 in
theorem put_bad (c : Int) (w : World) (hw : (Lit.int .i64 c).wf = true) (h : (decide (0 ≤ c) && Utf.char c.toNat) = false) :
    Calls Tryd.prog 13 #[.int .i64 c] w fun e w' => e = .returned (.tuple #[.slice none 0 0, .iface 33 (.int .i64 1)]) ∧ w = w' := by
  have H := Lib.hid (isChar_any c w hw)
  rw [h] at H
  clear h
  go_enter Tryd.func13, Tryd.ntmps13
  go_wp2_with fail
  with_reducible refine H.out.mono ?_
  rintro e w' ⟨rfl, rfl⟩
  go_wp2
  go_ret2
  exact ⟨rfl, rfl⟩

set_option maxRecDepth 100000 in
theorem put_ok (r : Nat) (w : World) (h : Utf.char r = true) :
    Calls Tryd.prog 13 #[.int .i64 r] w fun e w' => ∃ v, e = .returned (.tuple #[v, .nilIface]) ∧ Own w.heap.size w w' 5 v (u8s (Utf.enc r)) := by
  have hr : r ≤ 1114111 := by simp [Utf.char] at h; omega
  have H := Lib.hid (isChar_any r w (WalkArith.wf_i64 (by omega)))
  rw [show (decide (0 ≤ (r : Int)) && Utf.char (r : Int).toNat) = true by simp [h]] at H
  have HA := Lib.hid (appendRune_any r w h)
  clear h
  go_enter Tryd.func13, Tryd.ntmps13
  go_wp2_with fail
  with_reducible refine H.out.mono ?_
  rintro e w' ⟨rfl, rfl⟩
  go_wp2_with fail
  with_reducible refine HA.out.mono ?_
  rintro e w' ⟨v, rfl, hown⟩
  go_wp2
  go_ret2
  exact ⟨_, rfl, hown⟩

end Go.Proofs.YtfefabeamcdihaaDoor
