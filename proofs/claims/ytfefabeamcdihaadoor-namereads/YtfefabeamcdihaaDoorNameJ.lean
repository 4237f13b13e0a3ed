/- grommetref02.at by its contract: what the decoder tells. -/
import Derived.Test.YtfefabeamcdihaaDoorNameD
import Derived.Test.YtfefabeamcdihaaDoorNameMath3
import Derived.Test.YtfefabeamcdihaaDoorRegion
namespace Go.Proofs.YtfefabeamcdihaaDoor
open Go.RowKit Go.Lib

theorem refChar_int (r : Nat) (c : Int) (w : World) (h : c = r) : Calls Tryd.prog 14 #[.int .i64 c] w fun e w' => e = .returned (.bool (Utf.char r)) ∧ w = w' := by
  subst h
  have := refChar_any r w
  simpa using this
theorem refPut_int (r : Nat) (c : Int) (w : World) (h : c = r) (hc : Utf.char r = true) :
    Calls Tryd.prog 15 #[.int .i64 c] w fun e w' => ∃ v, e = .returned v ∧ Own w.heap.size w w' 5 v (u8s (Utf.enc r)) := by
  subst h
  exact refPut_any r w hc
theorem run_str_drew2 {w : World} {B : Nat} {A : Option Addr} {bs : List UInt8} (h : Sl w B A (u8s bs)) (n c : Nat) (hn : bs.length = n) : (convert 22 9 (.slice A n c)).run Tryd.prog w.drew = .ok (.string ⟨bs.toArray⟩) w.drew := by
  subst hn
  exact run_str_of (P := Tryd.prog) (w := w.drew) 22 9 5 Tryd.underlying22 Tryd.underlying5 Tryd.underlying9 (h.drewN 1) c

theorem run_str_at {w : World} {B : Nat} {A : Option Addr} {bs : List UInt8} (h : Sl w B A (u8s bs)) (n c : Nat) (hn : bs.length = n) : (convert 22 9 (.slice A n c)).run Tryd.prog w = .ok (.string ⟨bs.toArray⟩) w := by
  subst hn
  exact run_str_of (P := Tryd.prog) (w := w) 22 9 5 Tryd.underlying22 Tryd.underlying5 Tryd.underlying9 h c
theorem ret2 {a b a' b' : Value} (h1 : a = a') (h2 : b = b') : Ending.returned (.tuple #[a, b]) = .returned (.tuple #[a', b']) := by rw [h1, h2]

/-- what at tells. -/
def atV (l : List UInt8) : Value := if Utf.dec l = (65533, 1) then .tuple #[.int .i64 (-1), .int .i64 0] else .tuple #[.int .i64 ((Utf.dec l).1 : Nat), .int .i64 ((Utf.dec l).2 : Nat)]

theorem atV_hit {l : List UInt8} {m r : Nat} (h : Utf.Hit l m) (hr : Utf.val l m (m - 1) = r) : atV l = .tuple #[.int .i64 (r : Nat), .int .i64 (m : Nat)] := by
  obtain ⟨h1, h2⟩ := Utf.hit_dec h
  unfold atV
  rw [if_neg h2, h1, hr]
theorem atV_none {l : List UInt8} (hl : 1 ≤ l.length) (h : ∀ m, 1 ≤ m → m ≤ 4 → m ≤ l.length → ¬ Utf.Hit l m) : atV l = .tuple #[.int .i64 (-1), .int .i64 0] := by
  unfold atV
  by_cases hb : Utf.dec l = (65533, 1)
  · rw [if_pos hb]
  · have hw := Utf.dec_width l hl
    exact absurd (Utf.dec_hit hl hb).1 (h _ hw.1 hw.2.2 hw.2.1)
theorem str_ne {a b : List UInt8} (h : a ≠ b) : (⟨a.toArray⟩ : ByteArray) ≠ ⟨b.toArray⟩ := fun e => h (by
  have := congrArg ByteArray.data e
  simpa using congrArg Array.toList this)

set_option maxHeartbeats 40000000 in
set_option maxRecDepth 100000 in
theorem at_any (b off cp p : Nat) (bs : List UInt8) (w : World) (hs : Sl w w.heap.size (some ⟨b, off, none⟩) (u8s bs)) (hc : bs.length ≤ cp) (hm : cp ≤ maxLen) (hlen : bs.length ≤ 1000) (hp : p < bs.length) :
    Calls Tryd.prog 18 #[.slice (some ⟨b, off, none⟩) bs.length cp, .int .i64 p] w fun e w' => e = .returned (atV (bs.drop p)) ∧ Below w.heap.size w w' := by
  unfold maxLen at hm
  obtain ⟨l, hl⟩ : ∃ l, bs.drop p = l := ⟨_, rfl⟩
  have hll : l.length = bs.length - p := by rw [← hl]; simp
  have hsl := Sl.cut8 hs p
  rw [hl] at hsl ⊢
  have hbl : b < w.heap.size := by
    have c0 := u8_cell hs p hp
    exact World.block_lt_of_cell? _ _ c0
  have HC := Lib.hid hsl
  have hck : ¬ cp = p := by omega
  clear hsl hs
  go_enter Tryd.func18, Tryd.ntmps18
  go_wp2
  go_loopw [6] (fun n wr => ∃ m : Nat, 1 ≤ m ∧ m ≤ 5 ∧ n = .int .i64 m ∧ Below w.heap.size w wr ∧ Hid (∀ j, 1 ≤ j → j < m → ¬ Utf.Hit l j)) (fun n _ => 5 - (intOf n).toNat)
  case atStart => exact ⟨1, Nat.le_refl _, by omega, rfl, Below.refl _ _, Lib.hid (fun j h1 h2 => by omega)⟩
  case round =>
    obtain ⟨m, hm1, hm5, rfl, hb, HN⟩ := hrel
    have hslW := HC.out.below hb
    obtain rfl | rfl | rfl | rfl | rfl : m = 1 ∨ m = 2 ∨ m = 3 ∨ m = 4 ∨ m = 5 := by omega
    · by_cases hlt : p + 1 ≤ bs.length
      ·
        have c0 := u8_cell hslW 0 (by omega)
        have l0 := Utf.at_lt l 0
        rw [Nat.add_zero] at c0
        have hv : Utf.at_ l 0 = Utf.val l 1 (1 - 1) := by simp [Utf.val]
        obtain ⟨r, hr⟩ : ∃ r, Utf.val l 1 (1 - 1) = r := ⟨_, rfl⟩
        rw [hr] at hv
        obtain ⟨x0, hx0⟩ : ∃ x, Utf.at_ l 0 = x := ⟨_, rfl⟩
        rw [hx0] at c0 l0 hv
        have HV := Lib.hid hv
        have HRR := Lib.hid hr
        clear hv hr hx0
        have hlt' : ((p : Int) + 1) ≤ (bs.length : Int) := by omega
        have hml : 1 ≤ l.length := by omega
        have hwr : IntKind.i64.wrap ((p : Int) + 1) = (p : Int) + 1 := by rw [IntWalk.i64_left]; unfold wrap64; omega
        have hw0 : (0 : Int) ≤ (p : Int) + 1 := by omega
        have hwc : (p : Int) + 1 ≤ (cp : Int) := by omega
        have hwt : ((p : Int) + 1).toNat = p + 1 := by omega
        obtain ⟨tk, htk⟩ : ∃ tk, l.take 1 = tk := ⟨_, rfl⟩
        have HSD := Lib.hid (show Sl _ w.heap.size (some ⟨b, off + p, none⟩) (u8s tk) from by rw [← htk, u8s_take]; exact (hslW.drewN 1).take 1)
        have HTK := Lib.hid (show tk.length = 1 by rw [← htk]; simp; omega)
        have HTT := Lib.hid htk
        have hcv := run_str_at HSD.out 1 (cp - p) HTK.out
        clear htk
        go_wp2
        refine wp_loop_rounds 1 ?_
        rw [rounds_succ]
        go_wp2_with fail
        with_reducible refine (refChar_int r _ _ (by have := HV.out; omega)).mono ?_
        rintro e w2 ⟨rfl, rfl⟩
        cases hch : Utf.char r with
        | false =>
          have HN2 := Lib.hid (show ∀ j, 1 ≤ j → j < 1 + 1 → ¬ Utf.Hit l j from fun j h1 h2 => by
            rcases Nat.lt_or_ge j 1 with h3 | h3
            · exact HN.out j h1 h3
            · have : j = 1 := by omega
              subst this
              intro hh
              have := hh.2.1
              rw [HRR.out, hch] at this
              cases this)
          go_wp2
          refine wp_region_held_drew (S := fun _ => True) (by kernel_rfl) trivial (fun hHeld => ?_)
          refine region_take 0 (some 52) (v := ?_) rfl rfl (by kernel_rfl) (by kernel_rfl) (by kernel_rfl) (fun _ _ _ h => h) (by rfl) ?_ (by assumption) ?_
          rotate_left
          · (intro w hSw; (try dsimp only at hSw); go_simp; try with_reducible rfl)
          try simp only [Act.put, List.setIfInBounds_toArray, List.set_cons_zero, List.set_cons_succ]
          refine region_take 1 (some 53) (v := ?_) rfl rfl (by kernel_rfl) (by kernel_rfl) (by kernel_rfl) (fun _ _ _ h => h) (by rfl) ?_ (by assumption) ?_
          rotate_left
          · (intro w hSw; (try dsimp only at hSw); go_simp; try with_reducible rfl)
          try simp only [Act.put, List.setIfInBounds_toArray, List.set_cons_zero, List.set_cons_succ]
          refine region_skip 2 (some 54) rfl rfl (by kernel_rfl) (by kernel_rfl) (by kernel_rfl) (fun _ _ _ h => h) (by rfl) (by assumption) ?_
          try simp only [Act.put, List.setIfInBounds_toArray, List.set_cons_zero, List.set_cons_succ]
          refine region_skip 3 (some 55) rfl rfl (by kernel_rfl) (by kernel_rfl) (by kernel_rfl) (fun _ _ _ h => h) (by rfl) (by assumption) ?_
          try simp only [Act.put, List.setIfInBounds_toArray, List.set_cons_zero, List.set_cons_succ]
          refine region_skip 4 (some 56) rfl rfl (by kernel_rfl) (by kernel_rfl) (by kernel_rfl) (fun _ _ _ h => h) (by rfl) (by assumption) ?_
          try simp only [Act.put, List.setIfInBounds_toArray, List.set_cons_zero, List.set_cons_succ]
          refine region_skip 5 (some 57) rfl rfl (by kernel_rfl) (by kernel_rfl) (by kernel_rfl) (fun _ _ _ h => h) (by rfl) (by assumption) ?_
          try simp only [Act.put, List.setIfInBounds_toArray, List.set_cons_zero, List.set_cons_succ]
          refine region_skip 6 (some 58) rfl rfl (by kernel_rfl) (by kernel_rfl) (by kernel_rfl) (fun _ _ _ h => h) (by rfl) (by assumption) ?_
          try simp only [Act.put, List.setIfInBounds_toArray, List.set_cons_zero, List.set_cons_succ]
          refine region_skip 7 (some 59) rfl rfl (by kernel_rfl) (by kernel_rfl) (by kernel_rfl) (fun _ _ _ h => h) (by rfl) (by assumption) ?_
          try simp only [Act.put, List.setIfInBounds_toArray, List.set_cons_zero, List.set_cons_succ]
          refine region_skip 8 (some 60) rfl rfl (by kernel_rfl) (by kernel_rfl) (by kernel_rfl) (fun _ _ _ h => h) (by rfl) (by assumption) ?_
          try simp only [Act.put, List.setIfInBounds_toArray, List.set_cons_zero, List.set_cons_succ]
          refine region_skip 9 (some 61) rfl rfl (by kernel_rfl) (by kernel_rfl) (by kernel_rfl) (fun _ _ _ h => h) (by rfl) (by assumption) ?_
          try simp only [Act.put, List.setIfInBounds_toArray, List.set_cons_zero, List.set_cons_succ]
          refine region_skip 10 (some 62) rfl rfl (by kernel_rfl) (by kernel_rfl) (by kernel_rfl) (fun _ _ _ h => h) (by rfl) (by assumption) ?_
          try simp only [Act.put, List.setIfInBounds_toArray, List.set_cons_zero, List.set_cons_succ]
          refine region_skip 11 (some 63) rfl rfl (by kernel_rfl) (by kernel_rfl) (by kernel_rfl) (fun _ _ _ h => h) (by rfl) (by assumption) ?_
          try simp only [Act.put, List.setIfInBounds_toArray, List.set_cons_zero, List.set_cons_succ]
          refine region_skip 12 (some 64) rfl rfl (by kernel_rfl) (by kernel_rfl) (by kernel_rfl) (fun _ _ _ h => h) (by rfl) (by assumption) ?_
          try simp only [Act.put, List.setIfInBounds_toArray, List.set_cons_zero, List.set_cons_succ]
          refine region_take 13 (some 65) (v := ?_) rfl rfl (by kernel_rfl) (by kernel_rfl) (by kernel_rfl) (fun _ _ _ h => h) (by rfl) ?_ (by assumption) ?_
          rotate_left
          · (intro w hSw; (try dsimp only at hSw); go_simp; try with_reducible rfl)
          try simp only [Act.put, List.setIfInBounds_toArray, List.set_cons_zero, List.set_cons_succ]
          refine wpAnyH_done (by kernel_rfl) ?_ _
          go_wp2
          go_roundw
          case rel => exact ⟨2, by omega, by omega, rfl, hb.drew, HN2⟩
          case measure => simp [intOf]
        | true =>
         by_cases heq : Utf.enc r = tk
         · have HR := Lib.hid fun c w h => refPut_int r c w h hch
           rw [heq] at HR
           have HF := Lib.hid (atV_hit (m := 1) ⟨hml, by rw [HRR.out]; exact hch, by rw [HRR.out, heq]; exact HTT.out.symm⟩ HRR.out)
           clear heq
           go_wp2
           refine wp_region_held_drew (S := fun w' => (convert 22 9 (.slice (some ⟨b, off + p, none⟩) 1 (cp - p))).run Tryd.prog w' = .ok (.string ⟨tk.toArray⟩) w') (by kernel_rfl) hcv (fun hHeld => ?_)
           refine region_take 0 (some 52) (v := ?_) rfl rfl (by kernel_rfl) (by kernel_rfl) (by kernel_rfl) (fun _ _ _ h => h) (by rfl) ?_ (by assumption) ?_
           rotate_left
           · (intro w hSw; (try dsimp only at hSw); go_simp; try with_reducible rfl)
           try simp only [Act.put, List.setIfInBounds_toArray, List.set_cons_zero, List.set_cons_succ]
           refine region_take 1 (some 53) (v := ?_) rfl rfl (by kernel_rfl) (by kernel_rfl) (by kernel_rfl) (fun _ _ _ h => h) (by rfl) ?_ (by assumption) ?_
           rotate_left
           · (intro w hSw; (try dsimp only at hSw); go_simp; try with_reducible rfl)
           try simp only [Act.put, List.setIfInBounds_toArray, List.set_cons_zero, List.set_cons_succ]
           refine region_take 2 (some 54) (v := ?_) rfl rfl (by kernel_rfl) (by kernel_rfl) (by kernel_rfl) (fun _ _ _ h => h) (by rfl) ?_ (by assumption) ?_
           rotate_left
           · (intro w hSw; (try dsimp only at hSw); go_simp; try with_reducible rfl)
           try simp only [Act.put, List.setIfInBounds_toArray, List.set_cons_zero, List.set_cons_succ]
           refine region_take 5 (some 57) (v := ?_) rfl rfl (by kernel_rfl) (by kernel_rfl) (by kernel_rfl) (fun _ _ _ h => h) (by rfl) ?_ (by assumption) ?_
           rotate_left
           · (intro w hSw; (try dsimp only at hSw); go_simp; try with_reducible rfl)
           try simp only [Act.put, List.setIfInBounds_toArray, List.set_cons_zero, List.set_cons_succ]
           refine region_take 6 (some 58) (v := ?_) rfl rfl (by kernel_rfl) (by kernel_rfl) (by kernel_rfl) (fun _ _ _ h => h) (by rfl) ?_ (by assumption) ?_
           rotate_left
           · (intro w hSw; (try dsimp only at hSw); go_simp; try with_reducible rfl)
           try simp only [Act.put, List.setIfInBounds_toArray, List.set_cons_zero, List.set_cons_succ]
           refine region_take 7 (some 59) (v := ?_) rfl rfl (by kernel_rfl) (by kernel_rfl) (by kernel_rfl) (fun _ _ _ h => h) (by rfl) ?_ (by assumption) ?_
           rotate_left
           · (intro w hSw; (try dsimp only at hSw); go_simp; try with_reducible rfl)
           try simp only [Act.put, List.setIfInBounds_toArray, List.set_cons_zero, List.set_cons_succ]
           refine region_take 8 (some 60) (v := ?_) rfl rfl (by kernel_rfl) (by kernel_rfl) (by kernel_rfl) (fun _ _ _ h => h) (by rfl) ?_ (by assumption) ?_
           rotate_left
           · (intro w hSw; (try dsimp only at hSw); go_simp; try with_reducible rfl)
           try simp only [Act.put, List.setIfInBounds_toArray, List.set_cons_zero, List.set_cons_succ]
           refine region_take 9 (some 61) (v := ?_) rfl rfl (by kernel_rfl) (by kernel_rfl) (by kernel_rfl) (fun _ _ _ h => h) (by rfl) ?_ (by assumption) ?_
           rotate_left
           · (intro w hSw; (try dsimp only at hSw); go_simp; try with_reducible rfl)
           try simp only [Act.put, List.setIfInBounds_toArray, List.set_cons_zero, List.set_cons_succ]
           refine region_take 10 (some 62) (v := ?_) rfl rfl (by kernel_rfl) (by kernel_rfl) (by kernel_rfl) (fun _ _ _ h => h) (by rfl) ?_ (by assumption) ?_
           rotate_left
           · (intro w hSw; (try dsimp only at hSw); go_simp; try with_reducible rfl)
           try simp only [Act.put, List.setIfInBounds_toArray, List.set_cons_zero, List.set_cons_succ]
           refine region_take 11 (some 63) (v := ?_) rfl rfl (by kernel_rfl) (by kernel_rfl) (by kernel_rfl) (fun _ _ _ h => h) (by rfl) ?_ (by assumption) ?_
           rotate_left
           · (intro w hSw; (try dsimp only at hSw); go_simp; try with_reducible rfl)
           try simp only [Act.put, List.setIfInBounds_toArray, List.set_cons_zero, List.set_cons_succ]
           refine wpAnyH_ready (rs := [3]) (by kernel_rfl) (by simp) ?_
           refine AllReadyH.cons rfl (fun K hK => ?_) AllReadyH.nil
           go_simp
           refine (HR.out _ _ (by have := HV.out; omega)).mono ?_
           rintro e wP ⟨vP, rfl, hownP⟩
           obtain ⟨AP, dP, rfl, _, _, hslP⟩ := hownP.bytes
           have hcvP := run_str_of (P := Tryd.prog) 22 9 5 Tryd.underlying22 Tryd.underlying5 Tryd.underlying9 hslP dP
           have hcv2 := run_str_at (HSD.out.below (hownP.below.mono hb.drew.size)) 1 (cp - p) HTK.out
           have hbP := hb.drew.trans (hownP.below.mono hb.drew.size)
           go_wp2_with fail
           refine hK.out _ _ hcv2 (fun hHeld => ?_)
           clear hK K
           try simp only [Act.put, List.setIfInBounds_toArray, List.set_cons_zero, List.set_cons_succ]
           refine wpAnyH_ready (rs := [4]) (by kernel_rfl) (by simp) ?_
           refine AllReadyH.cons rfl (fun K hK => ?_) AllReadyH.nil
           go_simp
           refine hK.out _ _ hcv2 (fun hHeld => ?_)
           clear hK K
           try simp only [Act.put, List.setIfInBounds_toArray, List.set_cons_zero, List.set_cons_succ]
           refine region_take 12 (some 64) (v := ?_) rfl rfl (by kernel_rfl) (by kernel_rfl) (by kernel_rfl) (fun _ _ _ h => h) (by rfl) ?_ (by assumption) ?_
           rotate_left
           · (intro w hSw; (try dsimp only at hSw); go_simp; try with_reducible rfl)
           try simp only [Act.put, List.setIfInBounds_toArray, List.set_cons_zero, List.set_cons_succ]
           refine region_take 13 (some 65) (v := ?_) rfl rfl (by kernel_rfl) (by kernel_rfl) (by kernel_rfl) (fun _ _ _ h => h) (by rfl) ?_ (by assumption) ?_
           rotate_left
           · (intro w hSw; (try dsimp only at hSw); go_simp; try with_reducible rfl)
           try simp only [Act.put, List.setIfInBounds_toArray, List.set_cons_zero, List.set_cons_succ]
           refine wpAnyH_done (by kernel_rfl) ?_ _
           go_wp2
           go_ret2
           refine ⟨?_, hbP⟩
           rw [HF.out]
           refine ret2 ?_ rfl
           have := HV.out
           exact congrArg (Value.int .i64) (by omega)
         · have HR := Lib.hid fun c w h => refPut_int r c w h hch
           have hne : (Utf.enc r == tk) = false := by simpa using heq
           have HN2 := Lib.hid (show ∀ j, 1 ≤ j → j < 1 + 1 → ¬ Utf.Hit l j from fun j h1 h2 => by
            rcases Nat.lt_or_ge j 1 with h3 | h3
            · exact HN.out j h1 h3
            · have : j = 1 := by omega
              subst this
              intro hh
              have := hh.2.2
              rw [HRR.out, HTT.out] at this
              exact heq this)
           clear heq
           obtain ⟨en, hen⟩ : ∃ en, Utf.enc r = en := ⟨_, rfl⟩
           rw [hen] at HR hne
           clear hen
           go_wp2
           refine wp_region_held_drew (S := fun w' => (convert 22 9 (.slice (some ⟨b, off + p, none⟩) 1 (cp - p))).run Tryd.prog w' = .ok (.string ⟨tk.toArray⟩) w') (by kernel_rfl) hcv (fun hHeld => ?_)
           refine region_take 0 (some 52) (v := ?_) rfl rfl (by kernel_rfl) (by kernel_rfl) (by kernel_rfl) (fun _ _ _ h => h) (by rfl) ?_ (by assumption) ?_
           rotate_left
           · (intro w hSw; (try dsimp only at hSw); go_simp; try with_reducible rfl)
           try simp only [Act.put, List.setIfInBounds_toArray, List.set_cons_zero, List.set_cons_succ]
           refine region_take 1 (some 53) (v := ?_) rfl rfl (by kernel_rfl) (by kernel_rfl) (by kernel_rfl) (fun _ _ _ h => h) (by rfl) ?_ (by assumption) ?_
           rotate_left
           · (intro w hSw; (try dsimp only at hSw); go_simp; try with_reducible rfl)
           try simp only [Act.put, List.setIfInBounds_toArray, List.set_cons_zero, List.set_cons_succ]
           refine region_take 2 (some 54) (v := ?_) rfl rfl (by kernel_rfl) (by kernel_rfl) (by kernel_rfl) (fun _ _ _ h => h) (by rfl) ?_ (by assumption) ?_
           rotate_left
           · (intro w hSw; (try dsimp only at hSw); go_simp; try with_reducible rfl)
           try simp only [Act.put, List.setIfInBounds_toArray, List.set_cons_zero, List.set_cons_succ]
           refine region_take 5 (some 57) (v := ?_) rfl rfl (by kernel_rfl) (by kernel_rfl) (by kernel_rfl) (fun _ _ _ h => h) (by rfl) ?_ (by assumption) ?_
           rotate_left
           · (intro w hSw; (try dsimp only at hSw); go_simp; try with_reducible rfl)
           try simp only [Act.put, List.setIfInBounds_toArray, List.set_cons_zero, List.set_cons_succ]
           refine region_take 6 (some 58) (v := ?_) rfl rfl (by kernel_rfl) (by kernel_rfl) (by kernel_rfl) (fun _ _ _ h => h) (by rfl) ?_ (by assumption) ?_
           rotate_left
           · (intro w hSw; (try dsimp only at hSw); go_simp; try with_reducible rfl)
           try simp only [Act.put, List.setIfInBounds_toArray, List.set_cons_zero, List.set_cons_succ]
           refine region_take 7 (some 59) (v := ?_) rfl rfl (by kernel_rfl) (by kernel_rfl) (by kernel_rfl) (fun _ _ _ h => h) (by rfl) ?_ (by assumption) ?_
           rotate_left
           · (intro w hSw; (try dsimp only at hSw); go_simp; try with_reducible rfl)
           try simp only [Act.put, List.setIfInBounds_toArray, List.set_cons_zero, List.set_cons_succ]
           refine region_take 8 (some 60) (v := ?_) rfl rfl (by kernel_rfl) (by kernel_rfl) (by kernel_rfl) (fun _ _ _ h => h) (by rfl) ?_ (by assumption) ?_
           rotate_left
           · (intro w hSw; (try dsimp only at hSw); go_simp; try with_reducible rfl)
           try simp only [Act.put, List.setIfInBounds_toArray, List.set_cons_zero, List.set_cons_succ]
           refine region_take 9 (some 61) (v := ?_) rfl rfl (by kernel_rfl) (by kernel_rfl) (by kernel_rfl) (fun _ _ _ h => h) (by rfl) ?_ (by assumption) ?_
           rotate_left
           · (intro w hSw; (try dsimp only at hSw); go_simp; try with_reducible rfl)
           try simp only [Act.put, List.setIfInBounds_toArray, List.set_cons_zero, List.set_cons_succ]
           refine region_take 10 (some 62) (v := ?_) rfl rfl (by kernel_rfl) (by kernel_rfl) (by kernel_rfl) (fun _ _ _ h => h) (by rfl) ?_ (by assumption) ?_
           rotate_left
           · (intro w hSw; (try dsimp only at hSw); go_simp; try with_reducible rfl)
           try simp only [Act.put, List.setIfInBounds_toArray, List.set_cons_zero, List.set_cons_succ]
           refine region_take 11 (some 63) (v := ?_) rfl rfl (by kernel_rfl) (by kernel_rfl) (by kernel_rfl) (fun _ _ _ h => h) (by rfl) ?_ (by assumption) ?_
           rotate_left
           · (intro w hSw; (try dsimp only at hSw); go_simp; try with_reducible rfl)
           try simp only [Act.put, List.setIfInBounds_toArray, List.set_cons_zero, List.set_cons_succ]
           refine wpAnyH_ready (rs := [3]) (by kernel_rfl) (by simp) ?_
           refine AllReadyH.cons rfl (fun K hK => ?_) AllReadyH.nil
           go_simp
           refine (HR.out _ _ (by have := HV.out; omega)).mono ?_
           rintro e wP ⟨vP, rfl, hownP⟩
           obtain ⟨AP, dP, rfl, _, _, hslP⟩ := hownP.bytes
           have hcvP := run_str_of (P := Tryd.prog) 22 9 5 Tryd.underlying22 Tryd.underlying5 Tryd.underlying9 hslP dP
           have hcv2 := run_str_at (HSD.out.below (hownP.below.mono hb.drew.size)) 1 (cp - p) HTK.out
           have hbP := hb.drew.trans (hownP.below.mono hb.drew.size)
           go_wp2_with fail
           refine hK.out _ _ hcv2 (fun hHeld => ?_)
           clear hK K
           try simp only [Act.put, List.setIfInBounds_toArray, List.set_cons_zero, List.set_cons_succ]
           refine wpAnyH_ready (rs := [4]) (by kernel_rfl) (by simp) ?_
           refine AllReadyH.cons rfl (fun K hK => ?_) AllReadyH.nil
           go_simp
           refine hK.out _ _ hcv2 (fun hHeld => ?_)
           clear hK K
           try simp only [Act.put, List.setIfInBounds_toArray, List.set_cons_zero, List.set_cons_succ]
           refine region_take 12 (some 64) (v := ?_) rfl rfl (by kernel_rfl) (by kernel_rfl) (by kernel_rfl) (fun _ _ _ h => h) (by rfl) ?_ (by assumption) ?_
           rotate_left
           · (intro w hSw; (try dsimp only at hSw); go_simp; try with_reducible rfl)
           try simp only [Act.put, List.setIfInBounds_toArray, List.set_cons_zero, List.set_cons_succ]
           refine region_take 13 (some 65) (v := ?_) rfl rfl (by kernel_rfl) (by kernel_rfl) (by kernel_rfl) (fun _ _ _ h => h) (by rfl) ?_ (by assumption) ?_
           rotate_left
           · (intro w hSw; (try dsimp only at hSw); go_simp; try with_reducible rfl)
           try simp only [Act.put, List.setIfInBounds_toArray, List.set_cons_zero, List.set_cons_succ]
           refine wpAnyH_done (by kernel_rfl) ?_ _
           go_wp2
           go_roundw
           case rel => exact ⟨2, by omega, by omega, rfl, hbP, HN2⟩
           case measure => simp [intOf]
      · have hlt' : ¬ ((p : Int) + 1) ≤ (bs.length : Int) := by omega
        have HF := Lib.hid (atV_none (l := l) (by omega) (fun q h1 h2 h3 => HN.out q h1 (by omega)))
        go_wp2
        go_ret2
        refine ⟨?_, hb⟩
        rw [HF.out]
        rfl
    · by_cases hlt : p + 2 ≤ bs.length
      ·
        have c0 := u8_cell hslW 0 (by omega)
        have l0 := Utf.at_lt l 0
        have c1 := u8_cell hslW 1 (by omega)
        have l1 := Utf.at_lt l 1
        rw [Nat.add_zero] at c0
        rw [show off + p + 1 = off + (p + 1) by omega] at c1
        have hv : (Utf.at_ l 0 % 32) * 64 + Utf.at_ l 1 % 64 = Utf.val l 2 (2 - 1) := by simp [Utf.val]
        obtain ⟨r, hr⟩ : ∃ r, Utf.val l 2 (2 - 1) = r := ⟨_, rfl⟩
        rw [hr] at hv
        obtain ⟨x0, hx0⟩ : ∃ x, Utf.at_ l 0 = x := ⟨_, rfl⟩
        rw [hx0] at c0 l0 hv
        obtain ⟨x1, hx1⟩ : ∃ x, Utf.at_ l 1 = x := ⟨_, rfl⟩
        rw [hx1] at c1 l1 hv
        have HV := Lib.hid hv
        have HRR := Lib.hid hr
        clear hv hr hx0 hx1
        have hlt' : ((p : Int) + 2) ≤ (bs.length : Int) := by omega
        have hml : 2 ≤ l.length := by omega
        have hwr : IntKind.i64.wrap ((p : Int) + 2) = (p : Int) + 2 := by rw [IntWalk.i64_left]; unfold wrap64; omega
        have hw0 : (0 : Int) ≤ (p : Int) + 2 := by omega
        have hwc : (p : Int) + 2 ≤ (cp : Int) := by omega
        have hwt : ((p : Int) + 2).toNat = p + 2 := by omega
        obtain ⟨tk, htk⟩ : ∃ tk, l.take 2 = tk := ⟨_, rfl⟩
        have HSD := Lib.hid (show Sl _ w.heap.size (some ⟨b, off + p, none⟩) (u8s tk) from by rw [← htk, u8s_take]; exact (hslW.drewN 1).take 2)
        have HTK := Lib.hid (show tk.length = 2 by rw [← htk]; simp; omega)
        have HTT := Lib.hid htk
        have hcv := run_str_at HSD.out 2 (cp - p) HTK.out
        clear htk
        go_wp2
        refine wp_loop_rounds 2 ?_
        rw [rounds_succ]
        go_wp2
        rw [rounds_succ]
        go_wp2_with fail
        with_reducible refine (refChar_int r _ _ (by have := HV.out; omega)).mono ?_
        rintro e w2 ⟨rfl, rfl⟩
        cases hch : Utf.char r with
        | false =>
          have HN2 := Lib.hid (show ∀ j, 1 ≤ j → j < 2 + 1 → ¬ Utf.Hit l j from fun j h1 h2 => by
            rcases Nat.lt_or_ge j 2 with h3 | h3
            · exact HN.out j h1 h3
            · have : j = 2 := by omega
              subst this
              intro hh
              have := hh.2.1
              rw [HRR.out, hch] at this
              cases this)
          go_wp2
          refine wp_region_held_drew (S := fun _ => True) (by kernel_rfl) trivial (fun hHeld => ?_)
          refine region_take 0 (some 52) (v := ?_) rfl rfl (by kernel_rfl) (by kernel_rfl) (by kernel_rfl) (fun _ _ _ h => h) (by rfl) ?_ (by assumption) ?_
          rotate_left
          · (intro w hSw; (try dsimp only at hSw); go_simp; try with_reducible rfl)
          try simp only [Act.put, List.setIfInBounds_toArray, List.set_cons_zero, List.set_cons_succ]
          refine region_take 1 (some 53) (v := ?_) rfl rfl (by kernel_rfl) (by kernel_rfl) (by kernel_rfl) (fun _ _ _ h => h) (by rfl) ?_ (by assumption) ?_
          rotate_left
          · (intro w hSw; (try dsimp only at hSw); go_simp; try with_reducible rfl)
          try simp only [Act.put, List.setIfInBounds_toArray, List.set_cons_zero, List.set_cons_succ]
          refine region_skip 2 (some 54) rfl rfl (by kernel_rfl) (by kernel_rfl) (by kernel_rfl) (fun _ _ _ h => h) (by rfl) (by assumption) ?_
          try simp only [Act.put, List.setIfInBounds_toArray, List.set_cons_zero, List.set_cons_succ]
          refine region_skip 3 (some 55) rfl rfl (by kernel_rfl) (by kernel_rfl) (by kernel_rfl) (fun _ _ _ h => h) (by rfl) (by assumption) ?_
          try simp only [Act.put, List.setIfInBounds_toArray, List.set_cons_zero, List.set_cons_succ]
          refine region_skip 4 (some 56) rfl rfl (by kernel_rfl) (by kernel_rfl) (by kernel_rfl) (fun _ _ _ h => h) (by rfl) (by assumption) ?_
          try simp only [Act.put, List.setIfInBounds_toArray, List.set_cons_zero, List.set_cons_succ]
          refine region_skip 5 (some 57) rfl rfl (by kernel_rfl) (by kernel_rfl) (by kernel_rfl) (fun _ _ _ h => h) (by rfl) (by assumption) ?_
          try simp only [Act.put, List.setIfInBounds_toArray, List.set_cons_zero, List.set_cons_succ]
          refine region_skip 6 (some 58) rfl rfl (by kernel_rfl) (by kernel_rfl) (by kernel_rfl) (fun _ _ _ h => h) (by rfl) (by assumption) ?_
          try simp only [Act.put, List.setIfInBounds_toArray, List.set_cons_zero, List.set_cons_succ]
          refine region_skip 7 (some 59) rfl rfl (by kernel_rfl) (by kernel_rfl) (by kernel_rfl) (fun _ _ _ h => h) (by rfl) (by assumption) ?_
          try simp only [Act.put, List.setIfInBounds_toArray, List.set_cons_zero, List.set_cons_succ]
          refine region_skip 8 (some 60) rfl rfl (by kernel_rfl) (by kernel_rfl) (by kernel_rfl) (fun _ _ _ h => h) (by rfl) (by assumption) ?_
          try simp only [Act.put, List.setIfInBounds_toArray, List.set_cons_zero, List.set_cons_succ]
          refine region_skip 9 (some 61) rfl rfl (by kernel_rfl) (by kernel_rfl) (by kernel_rfl) (fun _ _ _ h => h) (by rfl) (by assumption) ?_
          try simp only [Act.put, List.setIfInBounds_toArray, List.set_cons_zero, List.set_cons_succ]
          refine region_skip 10 (some 62) rfl rfl (by kernel_rfl) (by kernel_rfl) (by kernel_rfl) (fun _ _ _ h => h) (by rfl) (by assumption) ?_
          try simp only [Act.put, List.setIfInBounds_toArray, List.set_cons_zero, List.set_cons_succ]
          refine region_skip 11 (some 63) rfl rfl (by kernel_rfl) (by kernel_rfl) (by kernel_rfl) (fun _ _ _ h => h) (by rfl) (by assumption) ?_
          try simp only [Act.put, List.setIfInBounds_toArray, List.set_cons_zero, List.set_cons_succ]
          refine region_skip 12 (some 64) rfl rfl (by kernel_rfl) (by kernel_rfl) (by kernel_rfl) (fun _ _ _ h => h) (by rfl) (by assumption) ?_
          try simp only [Act.put, List.setIfInBounds_toArray, List.set_cons_zero, List.set_cons_succ]
          refine region_take 13 (some 65) (v := ?_) rfl rfl (by kernel_rfl) (by kernel_rfl) (by kernel_rfl) (fun _ _ _ h => h) (by rfl) ?_ (by assumption) ?_
          rotate_left
          · (intro w hSw; (try dsimp only at hSw); go_simp; try with_reducible rfl)
          try simp only [Act.put, List.setIfInBounds_toArray, List.set_cons_zero, List.set_cons_succ]
          refine wpAnyH_done (by kernel_rfl) ?_ _
          go_wp2
          go_roundw
          case rel => exact ⟨3, by omega, by omega, rfl, hb.drew, HN2⟩
          case measure => simp [intOf]
        | true =>
         by_cases heq : Utf.enc r = tk
         · have HR := Lib.hid fun c w h => refPut_int r c w h hch
           rw [heq] at HR
           have HF := Lib.hid (atV_hit (m := 2) ⟨hml, by rw [HRR.out]; exact hch, by rw [HRR.out, heq]; exact HTT.out.symm⟩ HRR.out)
           clear heq
           go_wp2
           refine wp_region_held_drew (S := fun w' => (convert 22 9 (.slice (some ⟨b, off + p, none⟩) 2 (cp - p))).run Tryd.prog w' = .ok (.string ⟨tk.toArray⟩) w') (by kernel_rfl) hcv (fun hHeld => ?_)
           refine region_take 0 (some 52) (v := ?_) rfl rfl (by kernel_rfl) (by kernel_rfl) (by kernel_rfl) (fun _ _ _ h => h) (by rfl) ?_ (by assumption) ?_
           rotate_left
           · (intro w hSw; (try dsimp only at hSw); go_simp; try with_reducible rfl)
           try simp only [Act.put, List.setIfInBounds_toArray, List.set_cons_zero, List.set_cons_succ]
           refine region_take 1 (some 53) (v := ?_) rfl rfl (by kernel_rfl) (by kernel_rfl) (by kernel_rfl) (fun _ _ _ h => h) (by rfl) ?_ (by assumption) ?_
           rotate_left
           · (intro w hSw; (try dsimp only at hSw); go_simp; try with_reducible rfl)
           try simp only [Act.put, List.setIfInBounds_toArray, List.set_cons_zero, List.set_cons_succ]
           refine region_take 2 (some 54) (v := ?_) rfl rfl (by kernel_rfl) (by kernel_rfl) (by kernel_rfl) (fun _ _ _ h => h) (by rfl) ?_ (by assumption) ?_
           rotate_left
           · (intro w hSw; (try dsimp only at hSw); go_simp; try with_reducible rfl)
           try simp only [Act.put, List.setIfInBounds_toArray, List.set_cons_zero, List.set_cons_succ]
           refine region_take 5 (some 57) (v := ?_) rfl rfl (by kernel_rfl) (by kernel_rfl) (by kernel_rfl) (fun _ _ _ h => h) (by rfl) ?_ (by assumption) ?_
           rotate_left
           · (intro w hSw; (try dsimp only at hSw); go_simp; try with_reducible rfl)
           try simp only [Act.put, List.setIfInBounds_toArray, List.set_cons_zero, List.set_cons_succ]
           refine region_take 6 (some 58) (v := ?_) rfl rfl (by kernel_rfl) (by kernel_rfl) (by kernel_rfl) (fun _ _ _ h => h) (by rfl) ?_ (by assumption) ?_
           rotate_left
           · (intro w hSw; (try dsimp only at hSw); go_simp; try with_reducible rfl)
           try simp only [Act.put, List.setIfInBounds_toArray, List.set_cons_zero, List.set_cons_succ]
           refine region_take 7 (some 59) (v := ?_) rfl rfl (by kernel_rfl) (by kernel_rfl) (by kernel_rfl) (fun _ _ _ h => h) (by rfl) ?_ (by assumption) ?_
           rotate_left
           · (intro w hSw; (try dsimp only at hSw); go_simp; try with_reducible rfl)
           try simp only [Act.put, List.setIfInBounds_toArray, List.set_cons_zero, List.set_cons_succ]
           refine region_take 8 (some 60) (v := ?_) rfl rfl (by kernel_rfl) (by kernel_rfl) (by kernel_rfl) (fun _ _ _ h => h) (by rfl) ?_ (by assumption) ?_
           rotate_left
           · (intro w hSw; (try dsimp only at hSw); go_simp; try with_reducible rfl)
           try simp only [Act.put, List.setIfInBounds_toArray, List.set_cons_zero, List.set_cons_succ]
           refine region_take 9 (some 61) (v := ?_) rfl rfl (by kernel_rfl) (by kernel_rfl) (by kernel_rfl) (fun _ _ _ h => h) (by rfl) ?_ (by assumption) ?_
           rotate_left
           · (intro w hSw; (try dsimp only at hSw); go_simp; try with_reducible rfl)
           try simp only [Act.put, List.setIfInBounds_toArray, List.set_cons_zero, List.set_cons_succ]
           refine region_take 10 (some 62) (v := ?_) rfl rfl (by kernel_rfl) (by kernel_rfl) (by kernel_rfl) (fun _ _ _ h => h) (by rfl) ?_ (by assumption) ?_
           rotate_left
           · (intro w hSw; (try dsimp only at hSw); go_simp; try with_reducible rfl)
           try simp only [Act.put, List.setIfInBounds_toArray, List.set_cons_zero, List.set_cons_succ]
           refine region_take 11 (some 63) (v := ?_) rfl rfl (by kernel_rfl) (by kernel_rfl) (by kernel_rfl) (fun _ _ _ h => h) (by rfl) ?_ (by assumption) ?_
           rotate_left
           · (intro w hSw; (try dsimp only at hSw); go_simp; try with_reducible rfl)
           try simp only [Act.put, List.setIfInBounds_toArray, List.set_cons_zero, List.set_cons_succ]
           refine wpAnyH_ready (rs := [3]) (by kernel_rfl) (by simp) ?_
           refine AllReadyH.cons rfl (fun K hK => ?_) AllReadyH.nil
           go_simp
           refine (HR.out _ _ (by have := HV.out; omega)).mono ?_
           rintro e wP ⟨vP, rfl, hownP⟩
           obtain ⟨AP, dP, rfl, _, _, hslP⟩ := hownP.bytes
           have hcvP := run_str_of (P := Tryd.prog) 22 9 5 Tryd.underlying22 Tryd.underlying5 Tryd.underlying9 hslP dP
           have hcv2 := run_str_at (HSD.out.below (hownP.below.mono hb.drew.size)) 2 (cp - p) HTK.out
           have hbP := hb.drew.trans (hownP.below.mono hb.drew.size)
           go_wp2_with fail
           refine hK.out _ _ hcv2 (fun hHeld => ?_)
           clear hK K
           try simp only [Act.put, List.setIfInBounds_toArray, List.set_cons_zero, List.set_cons_succ]
           refine wpAnyH_ready (rs := [4]) (by kernel_rfl) (by simp) ?_
           refine AllReadyH.cons rfl (fun K hK => ?_) AllReadyH.nil
           go_simp
           refine hK.out _ _ hcv2 (fun hHeld => ?_)
           clear hK K
           try simp only [Act.put, List.setIfInBounds_toArray, List.set_cons_zero, List.set_cons_succ]
           refine region_take 12 (some 64) (v := ?_) rfl rfl (by kernel_rfl) (by kernel_rfl) (by kernel_rfl) (fun _ _ _ h => h) (by rfl) ?_ (by assumption) ?_
           rotate_left
           · (intro w hSw; (try dsimp only at hSw); go_simp; try with_reducible rfl)
           try simp only [Act.put, List.setIfInBounds_toArray, List.set_cons_zero, List.set_cons_succ]
           refine region_take 13 (some 65) (v := ?_) rfl rfl (by kernel_rfl) (by kernel_rfl) (by kernel_rfl) (fun _ _ _ h => h) (by rfl) ?_ (by assumption) ?_
           rotate_left
           · (intro w hSw; (try dsimp only at hSw); go_simp; try with_reducible rfl)
           try simp only [Act.put, List.setIfInBounds_toArray, List.set_cons_zero, List.set_cons_succ]
           refine wpAnyH_done (by kernel_rfl) ?_ _
           go_wp2
           go_ret2
           refine ⟨?_, hbP⟩
           rw [HF.out]
           refine ret2 ?_ rfl
           have := HV.out
           exact congrArg (Value.int .i64) (by omega)
         · have HR := Lib.hid fun c w h => refPut_int r c w h hch
           have hne : (Utf.enc r == tk) = false := by simpa using heq
           have HN2 := Lib.hid (show ∀ j, 1 ≤ j → j < 2 + 1 → ¬ Utf.Hit l j from fun j h1 h2 => by
            rcases Nat.lt_or_ge j 2 with h3 | h3
            · exact HN.out j h1 h3
            · have : j = 2 := by omega
              subst this
              intro hh
              have := hh.2.2
              rw [HRR.out, HTT.out] at this
              exact heq this)
           clear heq
           obtain ⟨en, hen⟩ : ∃ en, Utf.enc r = en := ⟨_, rfl⟩
           rw [hen] at HR hne
           clear hen
           go_wp2
           refine wp_region_held_drew (S := fun w' => (convert 22 9 (.slice (some ⟨b, off + p, none⟩) 2 (cp - p))).run Tryd.prog w' = .ok (.string ⟨tk.toArray⟩) w') (by kernel_rfl) hcv (fun hHeld => ?_)
           refine region_take 0 (some 52) (v := ?_) rfl rfl (by kernel_rfl) (by kernel_rfl) (by kernel_rfl) (fun _ _ _ h => h) (by rfl) ?_ (by assumption) ?_
           rotate_left
           · (intro w hSw; (try dsimp only at hSw); go_simp; try with_reducible rfl)
           try simp only [Act.put, List.setIfInBounds_toArray, List.set_cons_zero, List.set_cons_succ]
           refine region_take 1 (some 53) (v := ?_) rfl rfl (by kernel_rfl) (by kernel_rfl) (by kernel_rfl) (fun _ _ _ h => h) (by rfl) ?_ (by assumption) ?_
           rotate_left
           · (intro w hSw; (try dsimp only at hSw); go_simp; try with_reducible rfl)
           try simp only [Act.put, List.setIfInBounds_toArray, List.set_cons_zero, List.set_cons_succ]
           refine region_take 2 (some 54) (v := ?_) rfl rfl (by kernel_rfl) (by kernel_rfl) (by kernel_rfl) (fun _ _ _ h => h) (by rfl) ?_ (by assumption) ?_
           rotate_left
           · (intro w hSw; (try dsimp only at hSw); go_simp; try with_reducible rfl)
           try simp only [Act.put, List.setIfInBounds_toArray, List.set_cons_zero, List.set_cons_succ]
           refine region_take 5 (some 57) (v := ?_) rfl rfl (by kernel_rfl) (by kernel_rfl) (by kernel_rfl) (fun _ _ _ h => h) (by rfl) ?_ (by assumption) ?_
           rotate_left
           · (intro w hSw; (try dsimp only at hSw); go_simp; try with_reducible rfl)
           try simp only [Act.put, List.setIfInBounds_toArray, List.set_cons_zero, List.set_cons_succ]
           refine region_take 6 (some 58) (v := ?_) rfl rfl (by kernel_rfl) (by kernel_rfl) (by kernel_rfl) (fun _ _ _ h => h) (by rfl) ?_ (by assumption) ?_
           rotate_left
           · (intro w hSw; (try dsimp only at hSw); go_simp; try with_reducible rfl)
           try simp only [Act.put, List.setIfInBounds_toArray, List.set_cons_zero, List.set_cons_succ]
           refine region_take 7 (some 59) (v := ?_) rfl rfl (by kernel_rfl) (by kernel_rfl) (by kernel_rfl) (fun _ _ _ h => h) (by rfl) ?_ (by assumption) ?_
           rotate_left
           · (intro w hSw; (try dsimp only at hSw); go_simp; try with_reducible rfl)
           try simp only [Act.put, List.setIfInBounds_toArray, List.set_cons_zero, List.set_cons_succ]
           refine region_take 8 (some 60) (v := ?_) rfl rfl (by kernel_rfl) (by kernel_rfl) (by kernel_rfl) (fun _ _ _ h => h) (by rfl) ?_ (by assumption) ?_
           rotate_left
           · (intro w hSw; (try dsimp only at hSw); go_simp; try with_reducible rfl)
           try simp only [Act.put, List.setIfInBounds_toArray, List.set_cons_zero, List.set_cons_succ]
           refine region_take 9 (some 61) (v := ?_) rfl rfl (by kernel_rfl) (by kernel_rfl) (by kernel_rfl) (fun _ _ _ h => h) (by rfl) ?_ (by assumption) ?_
           rotate_left
           · (intro w hSw; (try dsimp only at hSw); go_simp; try with_reducible rfl)
           try simp only [Act.put, List.setIfInBounds_toArray, List.set_cons_zero, List.set_cons_succ]
           refine region_take 10 (some 62) (v := ?_) rfl rfl (by kernel_rfl) (by kernel_rfl) (by kernel_rfl) (fun _ _ _ h => h) (by rfl) ?_ (by assumption) ?_
           rotate_left
           · (intro w hSw; (try dsimp only at hSw); go_simp; try with_reducible rfl)
           try simp only [Act.put, List.setIfInBounds_toArray, List.set_cons_zero, List.set_cons_succ]
           refine region_take 11 (some 63) (v := ?_) rfl rfl (by kernel_rfl) (by kernel_rfl) (by kernel_rfl) (fun _ _ _ h => h) (by rfl) ?_ (by assumption) ?_
           rotate_left
           · (intro w hSw; (try dsimp only at hSw); go_simp; try with_reducible rfl)
           try simp only [Act.put, List.setIfInBounds_toArray, List.set_cons_zero, List.set_cons_succ]
           refine wpAnyH_ready (rs := [3]) (by kernel_rfl) (by simp) ?_
           refine AllReadyH.cons rfl (fun K hK => ?_) AllReadyH.nil
           go_simp
           refine (HR.out _ _ (by have := HV.out; omega)).mono ?_
           rintro e wP ⟨vP, rfl, hownP⟩
           obtain ⟨AP, dP, rfl, _, _, hslP⟩ := hownP.bytes
           have hcvP := run_str_of (P := Tryd.prog) 22 9 5 Tryd.underlying22 Tryd.underlying5 Tryd.underlying9 hslP dP
           have hcv2 := run_str_at (HSD.out.below (hownP.below.mono hb.drew.size)) 2 (cp - p) HTK.out
           have hbP := hb.drew.trans (hownP.below.mono hb.drew.size)
           go_wp2_with fail
           refine hK.out _ _ hcv2 (fun hHeld => ?_)
           clear hK K
           try simp only [Act.put, List.setIfInBounds_toArray, List.set_cons_zero, List.set_cons_succ]
           refine wpAnyH_ready (rs := [4]) (by kernel_rfl) (by simp) ?_
           refine AllReadyH.cons rfl (fun K hK => ?_) AllReadyH.nil
           go_simp
           refine hK.out _ _ hcv2 (fun hHeld => ?_)
           clear hK K
           try simp only [Act.put, List.setIfInBounds_toArray, List.set_cons_zero, List.set_cons_succ]
           refine region_take 12 (some 64) (v := ?_) rfl rfl (by kernel_rfl) (by kernel_rfl) (by kernel_rfl) (fun _ _ _ h => h) (by rfl) ?_ (by assumption) ?_
           rotate_left
           · (intro w hSw; (try dsimp only at hSw); go_simp; try with_reducible rfl)
           try simp only [Act.put, List.setIfInBounds_toArray, List.set_cons_zero, List.set_cons_succ]
           refine region_take 13 (some 65) (v := ?_) rfl rfl (by kernel_rfl) (by kernel_rfl) (by kernel_rfl) (fun _ _ _ h => h) (by rfl) ?_ (by assumption) ?_
           rotate_left
           · (intro w hSw; (try dsimp only at hSw); go_simp; try with_reducible rfl)
           try simp only [Act.put, List.setIfInBounds_toArray, List.set_cons_zero, List.set_cons_succ]
           refine wpAnyH_done (by kernel_rfl) ?_ _
           go_wp2
           go_roundw
           case rel => exact ⟨3, by omega, by omega, rfl, hbP, HN2⟩
           case measure => simp [intOf]
      · have hlt' : ¬ ((p : Int) + 2) ≤ (bs.length : Int) := by omega
        have HF := Lib.hid (atV_none (l := l) (by omega) (fun q h1 h2 h3 => HN.out q h1 (by omega)))
        go_wp2
        go_ret2
        refine ⟨?_, hb⟩
        rw [HF.out]
        rfl
    · by_cases hlt : p + 3 ≤ bs.length
      ·
        have c0 := u8_cell hslW 0 (by omega)
        have l0 := Utf.at_lt l 0
        have c1 := u8_cell hslW 1 (by omega)
        have l1 := Utf.at_lt l 1
        have c2 := u8_cell hslW 2 (by omega)
        have l2 := Utf.at_lt l 2
        rw [Nat.add_zero] at c0
        rw [show off + p + 1 = off + (p + 1) by omega] at c1
        rw [show off + p + 2 = off + (p + 2) by omega] at c2
        have hv : ((Utf.at_ l 0 % 16) * 64 + Utf.at_ l 1 % 64) * 64 + Utf.at_ l 2 % 64 = Utf.val l 3 (3 - 1) := by simp [Utf.val]
        obtain ⟨r, hr⟩ : ∃ r, Utf.val l 3 (3 - 1) = r := ⟨_, rfl⟩
        rw [hr] at hv
        obtain ⟨x0, hx0⟩ : ∃ x, Utf.at_ l 0 = x := ⟨_, rfl⟩
        rw [hx0] at c0 l0 hv
        obtain ⟨x1, hx1⟩ : ∃ x, Utf.at_ l 1 = x := ⟨_, rfl⟩
        rw [hx1] at c1 l1 hv
        obtain ⟨x2, hx2⟩ : ∃ x, Utf.at_ l 2 = x := ⟨_, rfl⟩
        rw [hx2] at c2 l2 hv
        have HV := Lib.hid hv
        have HRR := Lib.hid hr
        clear hv hr hx0 hx1 hx2
        have hlt' : ((p : Int) + 3) ≤ (bs.length : Int) := by omega
        have hml : 3 ≤ l.length := by omega
        have hwr : IntKind.i64.wrap ((p : Int) + 3) = (p : Int) + 3 := by rw [IntWalk.i64_left]; unfold wrap64; omega
        have hw0 : (0 : Int) ≤ (p : Int) + 3 := by omega
        have hwc : (p : Int) + 3 ≤ (cp : Int) := by omega
        have hwt : ((p : Int) + 3).toNat = p + 3 := by omega
        obtain ⟨tk, htk⟩ : ∃ tk, l.take 3 = tk := ⟨_, rfl⟩
        have HSD := Lib.hid (show Sl _ w.heap.size (some ⟨b, off + p, none⟩) (u8s tk) from by rw [← htk, u8s_take]; exact (hslW.drewN 1).take 3)
        have HTK := Lib.hid (show tk.length = 3 by rw [← htk]; simp; omega)
        have HTT := Lib.hid htk
        have hcv := run_str_at HSD.out 3 (cp - p) HTK.out
        clear htk
        go_wp2
        refine wp_loop_rounds 3 ?_
        rw [rounds_succ]
        go_wp2
        rw [rounds_succ]
        go_wp2
        rw [rounds_succ]
        go_wp2_with fail
        with_reducible refine (refChar_int r _ _ (by have := HV.out; omega)).mono ?_
        rintro e w2 ⟨rfl, rfl⟩
        cases hch : Utf.char r with
        | false =>
          have HN2 := Lib.hid (show ∀ j, 1 ≤ j → j < 3 + 1 → ¬ Utf.Hit l j from fun j h1 h2 => by
            rcases Nat.lt_or_ge j 3 with h3 | h3
            · exact HN.out j h1 h3
            · have : j = 3 := by omega
              subst this
              intro hh
              have := hh.2.1
              rw [HRR.out, hch] at this
              cases this)
          go_wp2
          refine wp_region_held_drew (S := fun _ => True) (by kernel_rfl) trivial (fun hHeld => ?_)
          refine region_take 0 (some 52) (v := ?_) rfl rfl (by kernel_rfl) (by kernel_rfl) (by kernel_rfl) (fun _ _ _ h => h) (by rfl) ?_ (by assumption) ?_
          rotate_left
          · (intro w hSw; (try dsimp only at hSw); go_simp; try with_reducible rfl)
          try simp only [Act.put, List.setIfInBounds_toArray, List.set_cons_zero, List.set_cons_succ]
          refine region_take 1 (some 53) (v := ?_) rfl rfl (by kernel_rfl) (by kernel_rfl) (by kernel_rfl) (fun _ _ _ h => h) (by rfl) ?_ (by assumption) ?_
          rotate_left
          · (intro w hSw; (try dsimp only at hSw); go_simp; try with_reducible rfl)
          try simp only [Act.put, List.setIfInBounds_toArray, List.set_cons_zero, List.set_cons_succ]
          refine region_skip 2 (some 54) rfl rfl (by kernel_rfl) (by kernel_rfl) (by kernel_rfl) (fun _ _ _ h => h) (by rfl) (by assumption) ?_
          try simp only [Act.put, List.setIfInBounds_toArray, List.set_cons_zero, List.set_cons_succ]
          refine region_skip 3 (some 55) rfl rfl (by kernel_rfl) (by kernel_rfl) (by kernel_rfl) (fun _ _ _ h => h) (by rfl) (by assumption) ?_
          try simp only [Act.put, List.setIfInBounds_toArray, List.set_cons_zero, List.set_cons_succ]
          refine region_skip 4 (some 56) rfl rfl (by kernel_rfl) (by kernel_rfl) (by kernel_rfl) (fun _ _ _ h => h) (by rfl) (by assumption) ?_
          try simp only [Act.put, List.setIfInBounds_toArray, List.set_cons_zero, List.set_cons_succ]
          refine region_skip 5 (some 57) rfl rfl (by kernel_rfl) (by kernel_rfl) (by kernel_rfl) (fun _ _ _ h => h) (by rfl) (by assumption) ?_
          try simp only [Act.put, List.setIfInBounds_toArray, List.set_cons_zero, List.set_cons_succ]
          refine region_skip 6 (some 58) rfl rfl (by kernel_rfl) (by kernel_rfl) (by kernel_rfl) (fun _ _ _ h => h) (by rfl) (by assumption) ?_
          try simp only [Act.put, List.setIfInBounds_toArray, List.set_cons_zero, List.set_cons_succ]
          refine region_skip 7 (some 59) rfl rfl (by kernel_rfl) (by kernel_rfl) (by kernel_rfl) (fun _ _ _ h => h) (by rfl) (by assumption) ?_
          try simp only [Act.put, List.setIfInBounds_toArray, List.set_cons_zero, List.set_cons_succ]
          refine region_skip 8 (some 60) rfl rfl (by kernel_rfl) (by kernel_rfl) (by kernel_rfl) (fun _ _ _ h => h) (by rfl) (by assumption) ?_
          try simp only [Act.put, List.setIfInBounds_toArray, List.set_cons_zero, List.set_cons_succ]
          refine region_skip 9 (some 61) rfl rfl (by kernel_rfl) (by kernel_rfl) (by kernel_rfl) (fun _ _ _ h => h) (by rfl) (by assumption) ?_
          try simp only [Act.put, List.setIfInBounds_toArray, List.set_cons_zero, List.set_cons_succ]
          refine region_skip 10 (some 62) rfl rfl (by kernel_rfl) (by kernel_rfl) (by kernel_rfl) (fun _ _ _ h => h) (by rfl) (by assumption) ?_
          try simp only [Act.put, List.setIfInBounds_toArray, List.set_cons_zero, List.set_cons_succ]
          refine region_skip 11 (some 63) rfl rfl (by kernel_rfl) (by kernel_rfl) (by kernel_rfl) (fun _ _ _ h => h) (by rfl) (by assumption) ?_
          try simp only [Act.put, List.setIfInBounds_toArray, List.set_cons_zero, List.set_cons_succ]
          refine region_skip 12 (some 64) rfl rfl (by kernel_rfl) (by kernel_rfl) (by kernel_rfl) (fun _ _ _ h => h) (by rfl) (by assumption) ?_
          try simp only [Act.put, List.setIfInBounds_toArray, List.set_cons_zero, List.set_cons_succ]
          refine region_take 13 (some 65) (v := ?_) rfl rfl (by kernel_rfl) (by kernel_rfl) (by kernel_rfl) (fun _ _ _ h => h) (by rfl) ?_ (by assumption) ?_
          rotate_left
          · (intro w hSw; (try dsimp only at hSw); go_simp; try with_reducible rfl)
          try simp only [Act.put, List.setIfInBounds_toArray, List.set_cons_zero, List.set_cons_succ]
          refine wpAnyH_done (by kernel_rfl) ?_ _
          go_wp2
          go_roundw
          case rel => exact ⟨4, by omega, by omega, rfl, hb.drew, HN2⟩
          case measure => simp [intOf]
        | true =>
         by_cases heq : Utf.enc r = tk
         · have HR := Lib.hid fun c w h => refPut_int r c w h hch
           rw [heq] at HR
           have HF := Lib.hid (atV_hit (m := 3) ⟨hml, by rw [HRR.out]; exact hch, by rw [HRR.out, heq]; exact HTT.out.symm⟩ HRR.out)
           clear heq
           go_wp2
           refine wp_region_held_drew (S := fun w' => (convert 22 9 (.slice (some ⟨b, off + p, none⟩) 3 (cp - p))).run Tryd.prog w' = .ok (.string ⟨tk.toArray⟩) w') (by kernel_rfl) hcv (fun hHeld => ?_)
           refine region_take 0 (some 52) (v := ?_) rfl rfl (by kernel_rfl) (by kernel_rfl) (by kernel_rfl) (fun _ _ _ h => h) (by rfl) ?_ (by assumption) ?_
           rotate_left
           · (intro w hSw; (try dsimp only at hSw); go_simp; try with_reducible rfl)
           try simp only [Act.put, List.setIfInBounds_toArray, List.set_cons_zero, List.set_cons_succ]
           refine region_take 1 (some 53) (v := ?_) rfl rfl (by kernel_rfl) (by kernel_rfl) (by kernel_rfl) (fun _ _ _ h => h) (by rfl) ?_ (by assumption) ?_
           rotate_left
           · (intro w hSw; (try dsimp only at hSw); go_simp; try with_reducible rfl)
           try simp only [Act.put, List.setIfInBounds_toArray, List.set_cons_zero, List.set_cons_succ]
           refine region_take 2 (some 54) (v := ?_) rfl rfl (by kernel_rfl) (by kernel_rfl) (by kernel_rfl) (fun _ _ _ h => h) (by rfl) ?_ (by assumption) ?_
           rotate_left
           · (intro w hSw; (try dsimp only at hSw); go_simp; try with_reducible rfl)
           try simp only [Act.put, List.setIfInBounds_toArray, List.set_cons_zero, List.set_cons_succ]
           refine region_take 5 (some 57) (v := ?_) rfl rfl (by kernel_rfl) (by kernel_rfl) (by kernel_rfl) (fun _ _ _ h => h) (by rfl) ?_ (by assumption) ?_
           rotate_left
           · (intro w hSw; (try dsimp only at hSw); go_simp; try with_reducible rfl)
           try simp only [Act.put, List.setIfInBounds_toArray, List.set_cons_zero, List.set_cons_succ]
           refine region_take 6 (some 58) (v := ?_) rfl rfl (by kernel_rfl) (by kernel_rfl) (by kernel_rfl) (fun _ _ _ h => h) (by rfl) ?_ (by assumption) ?_
           rotate_left
           · (intro w hSw; (try dsimp only at hSw); go_simp; try with_reducible rfl)
           try simp only [Act.put, List.setIfInBounds_toArray, List.set_cons_zero, List.set_cons_succ]
           refine region_take 7 (some 59) (v := ?_) rfl rfl (by kernel_rfl) (by kernel_rfl) (by kernel_rfl) (fun _ _ _ h => h) (by rfl) ?_ (by assumption) ?_
           rotate_left
           · (intro w hSw; (try dsimp only at hSw); go_simp; try with_reducible rfl)
           try simp only [Act.put, List.setIfInBounds_toArray, List.set_cons_zero, List.set_cons_succ]
           refine region_take 8 (some 60) (v := ?_) rfl rfl (by kernel_rfl) (by kernel_rfl) (by kernel_rfl) (fun _ _ _ h => h) (by rfl) ?_ (by assumption) ?_
           rotate_left
           · (intro w hSw; (try dsimp only at hSw); go_simp; try with_reducible rfl)
           try simp only [Act.put, List.setIfInBounds_toArray, List.set_cons_zero, List.set_cons_succ]
           refine region_take 9 (some 61) (v := ?_) rfl rfl (by kernel_rfl) (by kernel_rfl) (by kernel_rfl) (fun _ _ _ h => h) (by rfl) ?_ (by assumption) ?_
           rotate_left
           · (intro w hSw; (try dsimp only at hSw); go_simp; try with_reducible rfl)
           try simp only [Act.put, List.setIfInBounds_toArray, List.set_cons_zero, List.set_cons_succ]
           refine region_take 10 (some 62) (v := ?_) rfl rfl (by kernel_rfl) (by kernel_rfl) (by kernel_rfl) (fun _ _ _ h => h) (by rfl) ?_ (by assumption) ?_
           rotate_left
           · (intro w hSw; (try dsimp only at hSw); go_simp; try with_reducible rfl)
           try simp only [Act.put, List.setIfInBounds_toArray, List.set_cons_zero, List.set_cons_succ]
           refine region_take 11 (some 63) (v := ?_) rfl rfl (by kernel_rfl) (by kernel_rfl) (by kernel_rfl) (fun _ _ _ h => h) (by rfl) ?_ (by assumption) ?_
           rotate_left
           · (intro w hSw; (try dsimp only at hSw); go_simp; try with_reducible rfl)
           try simp only [Act.put, List.setIfInBounds_toArray, List.set_cons_zero, List.set_cons_succ]
           refine wpAnyH_ready (rs := [3]) (by kernel_rfl) (by simp) ?_
           refine AllReadyH.cons rfl (fun K hK => ?_) AllReadyH.nil
           go_simp
           refine (HR.out _ _ (by have := HV.out; omega)).mono ?_
           rintro e wP ⟨vP, rfl, hownP⟩
           obtain ⟨AP, dP, rfl, _, _, hslP⟩ := hownP.bytes
           have hcvP := run_str_of (P := Tryd.prog) 22 9 5 Tryd.underlying22 Tryd.underlying5 Tryd.underlying9 hslP dP
           have hcv2 := run_str_at (HSD.out.below (hownP.below.mono hb.drew.size)) 3 (cp - p) HTK.out
           have hbP := hb.drew.trans (hownP.below.mono hb.drew.size)
           go_wp2_with fail
           refine hK.out _ _ hcv2 (fun hHeld => ?_)
           clear hK K
           try simp only [Act.put, List.setIfInBounds_toArray, List.set_cons_zero, List.set_cons_succ]
           refine wpAnyH_ready (rs := [4]) (by kernel_rfl) (by simp) ?_
           refine AllReadyH.cons rfl (fun K hK => ?_) AllReadyH.nil
           go_simp
           refine hK.out _ _ hcv2 (fun hHeld => ?_)
           clear hK K
           try simp only [Act.put, List.setIfInBounds_toArray, List.set_cons_zero, List.set_cons_succ]
           refine region_take 12 (some 64) (v := ?_) rfl rfl (by kernel_rfl) (by kernel_rfl) (by kernel_rfl) (fun _ _ _ h => h) (by rfl) ?_ (by assumption) ?_
           rotate_left
           · (intro w hSw; (try dsimp only at hSw); go_simp; try with_reducible rfl)
           try simp only [Act.put, List.setIfInBounds_toArray, List.set_cons_zero, List.set_cons_succ]
           refine region_take 13 (some 65) (v := ?_) rfl rfl (by kernel_rfl) (by kernel_rfl) (by kernel_rfl) (fun _ _ _ h => h) (by rfl) ?_ (by assumption) ?_
           rotate_left
           · (intro w hSw; (try dsimp only at hSw); go_simp; try with_reducible rfl)
           try simp only [Act.put, List.setIfInBounds_toArray, List.set_cons_zero, List.set_cons_succ]
           refine wpAnyH_done (by kernel_rfl) ?_ _
           go_wp2
           go_ret2
           refine ⟨?_, hbP⟩
           rw [HF.out]
           refine ret2 ?_ rfl
           have := HV.out
           exact congrArg (Value.int .i64) (by omega)
         · have HR := Lib.hid fun c w h => refPut_int r c w h hch
           have hne : (Utf.enc r == tk) = false := by simpa using heq
           have HN2 := Lib.hid (show ∀ j, 1 ≤ j → j < 3 + 1 → ¬ Utf.Hit l j from fun j h1 h2 => by
            rcases Nat.lt_or_ge j 3 with h3 | h3
            · exact HN.out j h1 h3
            · have : j = 3 := by omega
              subst this
              intro hh
              have := hh.2.2
              rw [HRR.out, HTT.out] at this
              exact heq this)
           clear heq
           obtain ⟨en, hen⟩ : ∃ en, Utf.enc r = en := ⟨_, rfl⟩
           rw [hen] at HR hne
           clear hen
           go_wp2
           refine wp_region_held_drew (S := fun w' => (convert 22 9 (.slice (some ⟨b, off + p, none⟩) 3 (cp - p))).run Tryd.prog w' = .ok (.string ⟨tk.toArray⟩) w') (by kernel_rfl) hcv (fun hHeld => ?_)
           refine region_take 0 (some 52) (v := ?_) rfl rfl (by kernel_rfl) (by kernel_rfl) (by kernel_rfl) (fun _ _ _ h => h) (by rfl) ?_ (by assumption) ?_
           rotate_left
           · (intro w hSw; (try dsimp only at hSw); go_simp; try with_reducible rfl)
           try simp only [Act.put, List.setIfInBounds_toArray, List.set_cons_zero, List.set_cons_succ]
           refine region_take 1 (some 53) (v := ?_) rfl rfl (by kernel_rfl) (by kernel_rfl) (by kernel_rfl) (fun _ _ _ h => h) (by rfl) ?_ (by assumption) ?_
           rotate_left
           · (intro w hSw; (try dsimp only at hSw); go_simp; try with_reducible rfl)
           try simp only [Act.put, List.setIfInBounds_toArray, List.set_cons_zero, List.set_cons_succ]
           refine region_take 2 (some 54) (v := ?_) rfl rfl (by kernel_rfl) (by kernel_rfl) (by kernel_rfl) (fun _ _ _ h => h) (by rfl) ?_ (by assumption) ?_
           rotate_left
           · (intro w hSw; (try dsimp only at hSw); go_simp; try with_reducible rfl)
           try simp only [Act.put, List.setIfInBounds_toArray, List.set_cons_zero, List.set_cons_succ]
           refine region_take 5 (some 57) (v := ?_) rfl rfl (by kernel_rfl) (by kernel_rfl) (by kernel_rfl) (fun _ _ _ h => h) (by rfl) ?_ (by assumption) ?_
           rotate_left
           · (intro w hSw; (try dsimp only at hSw); go_simp; try with_reducible rfl)
           try simp only [Act.put, List.setIfInBounds_toArray, List.set_cons_zero, List.set_cons_succ]
           refine region_take 6 (some 58) (v := ?_) rfl rfl (by kernel_rfl) (by kernel_rfl) (by kernel_rfl) (fun _ _ _ h => h) (by rfl) ?_ (by assumption) ?_
           rotate_left
           · (intro w hSw; (try dsimp only at hSw); go_simp; try with_reducible rfl)
           try simp only [Act.put, List.setIfInBounds_toArray, List.set_cons_zero, List.set_cons_succ]
           refine region_take 7 (some 59) (v := ?_) rfl rfl (by kernel_rfl) (by kernel_rfl) (by kernel_rfl) (fun _ _ _ h => h) (by rfl) ?_ (by assumption) ?_
           rotate_left
           · (intro w hSw; (try dsimp only at hSw); go_simp; try with_reducible rfl)
           try simp only [Act.put, List.setIfInBounds_toArray, List.set_cons_zero, List.set_cons_succ]
           refine region_take 8 (some 60) (v := ?_) rfl rfl (by kernel_rfl) (by kernel_rfl) (by kernel_rfl) (fun _ _ _ h => h) (by rfl) ?_ (by assumption) ?_
           rotate_left
           · (intro w hSw; (try dsimp only at hSw); go_simp; try with_reducible rfl)
           try simp only [Act.put, List.setIfInBounds_toArray, List.set_cons_zero, List.set_cons_succ]
           refine region_take 9 (some 61) (v := ?_) rfl rfl (by kernel_rfl) (by kernel_rfl) (by kernel_rfl) (fun _ _ _ h => h) (by rfl) ?_ (by assumption) ?_
           rotate_left
           · (intro w hSw; (try dsimp only at hSw); go_simp; try with_reducible rfl)
           try simp only [Act.put, List.setIfInBounds_toArray, List.set_cons_zero, List.set_cons_succ]
           refine region_take 10 (some 62) (v := ?_) rfl rfl (by kernel_rfl) (by kernel_rfl) (by kernel_rfl) (fun _ _ _ h => h) (by rfl) ?_ (by assumption) ?_
           rotate_left
           · (intro w hSw; (try dsimp only at hSw); go_simp; try with_reducible rfl)
           try simp only [Act.put, List.setIfInBounds_toArray, List.set_cons_zero, List.set_cons_succ]
           refine region_take 11 (some 63) (v := ?_) rfl rfl (by kernel_rfl) (by kernel_rfl) (by kernel_rfl) (fun _ _ _ h => h) (by rfl) ?_ (by assumption) ?_
           rotate_left
           · (intro w hSw; (try dsimp only at hSw); go_simp; try with_reducible rfl)
           try simp only [Act.put, List.setIfInBounds_toArray, List.set_cons_zero, List.set_cons_succ]
           refine wpAnyH_ready (rs := [3]) (by kernel_rfl) (by simp) ?_
           refine AllReadyH.cons rfl (fun K hK => ?_) AllReadyH.nil
           go_simp
           refine (HR.out _ _ (by have := HV.out; omega)).mono ?_
           rintro e wP ⟨vP, rfl, hownP⟩
           obtain ⟨AP, dP, rfl, _, _, hslP⟩ := hownP.bytes
           have hcvP := run_str_of (P := Tryd.prog) 22 9 5 Tryd.underlying22 Tryd.underlying5 Tryd.underlying9 hslP dP
           have hcv2 := run_str_at (HSD.out.below (hownP.below.mono hb.drew.size)) 3 (cp - p) HTK.out
           have hbP := hb.drew.trans (hownP.below.mono hb.drew.size)
           go_wp2_with fail
           refine hK.out _ _ hcv2 (fun hHeld => ?_)
           clear hK K
           try simp only [Act.put, List.setIfInBounds_toArray, List.set_cons_zero, List.set_cons_succ]
           refine wpAnyH_ready (rs := [4]) (by kernel_rfl) (by simp) ?_
           refine AllReadyH.cons rfl (fun K hK => ?_) AllReadyH.nil
           go_simp
           refine hK.out _ _ hcv2 (fun hHeld => ?_)
           clear hK K
           try simp only [Act.put, List.setIfInBounds_toArray, List.set_cons_zero, List.set_cons_succ]
           refine region_take 12 (some 64) (v := ?_) rfl rfl (by kernel_rfl) (by kernel_rfl) (by kernel_rfl) (fun _ _ _ h => h) (by rfl) ?_ (by assumption) ?_
           rotate_left
           · (intro w hSw; (try dsimp only at hSw); go_simp; try with_reducible rfl)
           try simp only [Act.put, List.setIfInBounds_toArray, List.set_cons_zero, List.set_cons_succ]
           refine region_take 13 (some 65) (v := ?_) rfl rfl (by kernel_rfl) (by kernel_rfl) (by kernel_rfl) (fun _ _ _ h => h) (by rfl) ?_ (by assumption) ?_
           rotate_left
           · (intro w hSw; (try dsimp only at hSw); go_simp; try with_reducible rfl)
           try simp only [Act.put, List.setIfInBounds_toArray, List.set_cons_zero, List.set_cons_succ]
           refine wpAnyH_done (by kernel_rfl) ?_ _
           go_wp2
           go_roundw
           case rel => exact ⟨4, by omega, by omega, rfl, hbP, HN2⟩
           case measure => simp [intOf]
      · have hlt' : ¬ ((p : Int) + 3) ≤ (bs.length : Int) := by omega
        have HF := Lib.hid (atV_none (l := l) (by omega) (fun q h1 h2 h3 => HN.out q h1 (by omega)))
        go_wp2
        go_ret2
        refine ⟨?_, hb⟩
        rw [HF.out]
        rfl
    · by_cases hlt : p + 4 ≤ bs.length
      ·
        have c0 := u8_cell hslW 0 (by omega)
        have l0 := Utf.at_lt l 0
        have c1 := u8_cell hslW 1 (by omega)
        have l1 := Utf.at_lt l 1
        have c2 := u8_cell hslW 2 (by omega)
        have l2 := Utf.at_lt l 2
        have c3 := u8_cell hslW 3 (by omega)
        have l3 := Utf.at_lt l 3
        rw [Nat.add_zero] at c0
        rw [show off + p + 1 = off + (p + 1) by omega] at c1
        rw [show off + p + 2 = off + (p + 2) by omega] at c2
        rw [show off + p + 3 = off + (p + 3) by omega] at c3
        have hv : (((Utf.at_ l 0 % 8) * 64 + Utf.at_ l 1 % 64) * 64 + Utf.at_ l 2 % 64) * 64 + Utf.at_ l 3 % 64 = Utf.val l 4 (4 - 1) := by simp [Utf.val]
        obtain ⟨r, hr⟩ : ∃ r, Utf.val l 4 (4 - 1) = r := ⟨_, rfl⟩
        rw [hr] at hv
        obtain ⟨x0, hx0⟩ : ∃ x, Utf.at_ l 0 = x := ⟨_, rfl⟩
        rw [hx0] at c0 l0 hv
        obtain ⟨x1, hx1⟩ : ∃ x, Utf.at_ l 1 = x := ⟨_, rfl⟩
        rw [hx1] at c1 l1 hv
        obtain ⟨x2, hx2⟩ : ∃ x, Utf.at_ l 2 = x := ⟨_, rfl⟩
        rw [hx2] at c2 l2 hv
        obtain ⟨x3, hx3⟩ : ∃ x, Utf.at_ l 3 = x := ⟨_, rfl⟩
        rw [hx3] at c3 l3 hv
        have HV := Lib.hid hv
        have HRR := Lib.hid hr
        clear hv hr hx0 hx1 hx2 hx3
        have hlt' : ((p : Int) + 4) ≤ (bs.length : Int) := by omega
        have hml : 4 ≤ l.length := by omega
        have hwr : IntKind.i64.wrap ((p : Int) + 4) = (p : Int) + 4 := by rw [IntWalk.i64_left]; unfold wrap64; omega
        have hw0 : (0 : Int) ≤ (p : Int) + 4 := by omega
        have hwc : (p : Int) + 4 ≤ (cp : Int) := by omega
        have hwt : ((p : Int) + 4).toNat = p + 4 := by omega
        obtain ⟨tk, htk⟩ : ∃ tk, l.take 4 = tk := ⟨_, rfl⟩
        have HSD := Lib.hid (show Sl _ w.heap.size (some ⟨b, off + p, none⟩) (u8s tk) from by rw [← htk, u8s_take]; exact (hslW.drewN 1).take 4)
        have HTK := Lib.hid (show tk.length = 4 by rw [← htk]; simp; omega)
        have HTT := Lib.hid htk
        have hcv := run_str_at HSD.out 4 (cp - p) HTK.out
        clear htk
        go_wp2
        refine wp_loop_rounds 4 ?_
        rw [rounds_succ]
        go_wp2
        rw [rounds_succ]
        go_wp2
        rw [rounds_succ]
        go_wp2
        rw [rounds_succ]
        go_wp2_with fail
        with_reducible refine (refChar_int r _ _ (by have := HV.out; omega)).mono ?_
        rintro e w2 ⟨rfl, rfl⟩
        cases hch : Utf.char r with
        | false =>
          have HN2 := Lib.hid (show ∀ j, 1 ≤ j → j < 4 + 1 → ¬ Utf.Hit l j from fun j h1 h2 => by
            rcases Nat.lt_or_ge j 4 with h3 | h3
            · exact HN.out j h1 h3
            · have : j = 4 := by omega
              subst this
              intro hh
              have := hh.2.1
              rw [HRR.out, hch] at this
              cases this)
          go_wp2
          refine wp_region_held_drew (S := fun _ => True) (by kernel_rfl) trivial (fun hHeld => ?_)
          refine region_take 0 (some 52) (v := ?_) rfl rfl (by kernel_rfl) (by kernel_rfl) (by kernel_rfl) (fun _ _ _ h => h) (by rfl) ?_ (by assumption) ?_
          rotate_left
          · (intro w hSw; (try dsimp only at hSw); go_simp; try with_reducible rfl)
          try simp only [Act.put, List.setIfInBounds_toArray, List.set_cons_zero, List.set_cons_succ]
          refine region_take 1 (some 53) (v := ?_) rfl rfl (by kernel_rfl) (by kernel_rfl) (by kernel_rfl) (fun _ _ _ h => h) (by rfl) ?_ (by assumption) ?_
          rotate_left
          · (intro w hSw; (try dsimp only at hSw); go_simp; try with_reducible rfl)
          try simp only [Act.put, List.setIfInBounds_toArray, List.set_cons_zero, List.set_cons_succ]
          refine region_skip 2 (some 54) rfl rfl (by kernel_rfl) (by kernel_rfl) (by kernel_rfl) (fun _ _ _ h => h) (by rfl) (by assumption) ?_
          try simp only [Act.put, List.setIfInBounds_toArray, List.set_cons_zero, List.set_cons_succ]
          refine region_skip 3 (some 55) rfl rfl (by kernel_rfl) (by kernel_rfl) (by kernel_rfl) (fun _ _ _ h => h) (by rfl) (by assumption) ?_
          try simp only [Act.put, List.setIfInBounds_toArray, List.set_cons_zero, List.set_cons_succ]
          refine region_skip 4 (some 56) rfl rfl (by kernel_rfl) (by kernel_rfl) (by kernel_rfl) (fun _ _ _ h => h) (by rfl) (by assumption) ?_
          try simp only [Act.put, List.setIfInBounds_toArray, List.set_cons_zero, List.set_cons_succ]
          refine region_skip 5 (some 57) rfl rfl (by kernel_rfl) (by kernel_rfl) (by kernel_rfl) (fun _ _ _ h => h) (by rfl) (by assumption) ?_
          try simp only [Act.put, List.setIfInBounds_toArray, List.set_cons_zero, List.set_cons_succ]
          refine region_skip 6 (some 58) rfl rfl (by kernel_rfl) (by kernel_rfl) (by kernel_rfl) (fun _ _ _ h => h) (by rfl) (by assumption) ?_
          try simp only [Act.put, List.setIfInBounds_toArray, List.set_cons_zero, List.set_cons_succ]
          refine region_skip 7 (some 59) rfl rfl (by kernel_rfl) (by kernel_rfl) (by kernel_rfl) (fun _ _ _ h => h) (by rfl) (by assumption) ?_
          try simp only [Act.put, List.setIfInBounds_toArray, List.set_cons_zero, List.set_cons_succ]
          refine region_skip 8 (some 60) rfl rfl (by kernel_rfl) (by kernel_rfl) (by kernel_rfl) (fun _ _ _ h => h) (by rfl) (by assumption) ?_
          try simp only [Act.put, List.setIfInBounds_toArray, List.set_cons_zero, List.set_cons_succ]
          refine region_skip 9 (some 61) rfl rfl (by kernel_rfl) (by kernel_rfl) (by kernel_rfl) (fun _ _ _ h => h) (by rfl) (by assumption) ?_
          try simp only [Act.put, List.setIfInBounds_toArray, List.set_cons_zero, List.set_cons_succ]
          refine region_skip 10 (some 62) rfl rfl (by kernel_rfl) (by kernel_rfl) (by kernel_rfl) (fun _ _ _ h => h) (by rfl) (by assumption) ?_
          try simp only [Act.put, List.setIfInBounds_toArray, List.set_cons_zero, List.set_cons_succ]
          refine region_skip 11 (some 63) rfl rfl (by kernel_rfl) (by kernel_rfl) (by kernel_rfl) (fun _ _ _ h => h) (by rfl) (by assumption) ?_
          try simp only [Act.put, List.setIfInBounds_toArray, List.set_cons_zero, List.set_cons_succ]
          refine region_skip 12 (some 64) rfl rfl (by kernel_rfl) (by kernel_rfl) (by kernel_rfl) (fun _ _ _ h => h) (by rfl) (by assumption) ?_
          try simp only [Act.put, List.setIfInBounds_toArray, List.set_cons_zero, List.set_cons_succ]
          refine region_take 13 (some 65) (v := ?_) rfl rfl (by kernel_rfl) (by kernel_rfl) (by kernel_rfl) (fun _ _ _ h => h) (by rfl) ?_ (by assumption) ?_
          rotate_left
          · (intro w hSw; (try dsimp only at hSw); go_simp; try with_reducible rfl)
          try simp only [Act.put, List.setIfInBounds_toArray, List.set_cons_zero, List.set_cons_succ]
          refine wpAnyH_done (by kernel_rfl) ?_ _
          go_wp2
          go_roundw
          case rel => exact ⟨5, by omega, by omega, rfl, hb.drew, HN2⟩
          case measure => simp [intOf]
        | true =>
         by_cases heq : Utf.enc r = tk
         · have HR := Lib.hid fun c w h => refPut_int r c w h hch
           rw [heq] at HR
           have HF := Lib.hid (atV_hit (m := 4) ⟨hml, by rw [HRR.out]; exact hch, by rw [HRR.out, heq]; exact HTT.out.symm⟩ HRR.out)
           clear heq
           go_wp2
           refine wp_region_held_drew (S := fun w' => (convert 22 9 (.slice (some ⟨b, off + p, none⟩) 4 (cp - p))).run Tryd.prog w' = .ok (.string ⟨tk.toArray⟩) w') (by kernel_rfl) hcv (fun hHeld => ?_)
           refine region_take 0 (some 52) (v := ?_) rfl rfl (by kernel_rfl) (by kernel_rfl) (by kernel_rfl) (fun _ _ _ h => h) (by rfl) ?_ (by assumption) ?_
           rotate_left
           · (intro w hSw; (try dsimp only at hSw); go_simp; try with_reducible rfl)
           try simp only [Act.put, List.setIfInBounds_toArray, List.set_cons_zero, List.set_cons_succ]
           refine region_take 1 (some 53) (v := ?_) rfl rfl (by kernel_rfl) (by kernel_rfl) (by kernel_rfl) (fun _ _ _ h => h) (by rfl) ?_ (by assumption) ?_
           rotate_left
           · (intro w hSw; (try dsimp only at hSw); go_simp; try with_reducible rfl)
           try simp only [Act.put, List.setIfInBounds_toArray, List.set_cons_zero, List.set_cons_succ]
           refine region_take 2 (some 54) (v := ?_) rfl rfl (by kernel_rfl) (by kernel_rfl) (by kernel_rfl) (fun _ _ _ h => h) (by rfl) ?_ (by assumption) ?_
           rotate_left
           · (intro w hSw; (try dsimp only at hSw); go_simp; try with_reducible rfl)
           try simp only [Act.put, List.setIfInBounds_toArray, List.set_cons_zero, List.set_cons_succ]
           refine region_take 5 (some 57) (v := ?_) rfl rfl (by kernel_rfl) (by kernel_rfl) (by kernel_rfl) (fun _ _ _ h => h) (by rfl) ?_ (by assumption) ?_
           rotate_left
           · (intro w hSw; (try dsimp only at hSw); go_simp; try with_reducible rfl)
           try simp only [Act.put, List.setIfInBounds_toArray, List.set_cons_zero, List.set_cons_succ]
           refine region_take 6 (some 58) (v := ?_) rfl rfl (by kernel_rfl) (by kernel_rfl) (by kernel_rfl) (fun _ _ _ h => h) (by rfl) ?_ (by assumption) ?_
           rotate_left
           · (intro w hSw; (try dsimp only at hSw); go_simp; try with_reducible rfl)
           try simp only [Act.put, List.setIfInBounds_toArray, List.set_cons_zero, List.set_cons_succ]
           refine region_take 7 (some 59) (v := ?_) rfl rfl (by kernel_rfl) (by kernel_rfl) (by kernel_rfl) (fun _ _ _ h => h) (by rfl) ?_ (by assumption) ?_
           rotate_left
           · (intro w hSw; (try dsimp only at hSw); go_simp; try with_reducible rfl)
           try simp only [Act.put, List.setIfInBounds_toArray, List.set_cons_zero, List.set_cons_succ]
           refine region_take 8 (some 60) (v := ?_) rfl rfl (by kernel_rfl) (by kernel_rfl) (by kernel_rfl) (fun _ _ _ h => h) (by rfl) ?_ (by assumption) ?_
           rotate_left
           · (intro w hSw; (try dsimp only at hSw); go_simp; try with_reducible rfl)
           try simp only [Act.put, List.setIfInBounds_toArray, List.set_cons_zero, List.set_cons_succ]
           refine region_take 9 (some 61) (v := ?_) rfl rfl (by kernel_rfl) (by kernel_rfl) (by kernel_rfl) (fun _ _ _ h => h) (by rfl) ?_ (by assumption) ?_
           rotate_left
           · (intro w hSw; (try dsimp only at hSw); go_simp; try with_reducible rfl)
           try simp only [Act.put, List.setIfInBounds_toArray, List.set_cons_zero, List.set_cons_succ]
           refine region_take 10 (some 62) (v := ?_) rfl rfl (by kernel_rfl) (by kernel_rfl) (by kernel_rfl) (fun _ _ _ h => h) (by rfl) ?_ (by assumption) ?_
           rotate_left
           · (intro w hSw; (try dsimp only at hSw); go_simp; try with_reducible rfl)
           try simp only [Act.put, List.setIfInBounds_toArray, List.set_cons_zero, List.set_cons_succ]
           refine region_take 11 (some 63) (v := ?_) rfl rfl (by kernel_rfl) (by kernel_rfl) (by kernel_rfl) (fun _ _ _ h => h) (by rfl) ?_ (by assumption) ?_
           rotate_left
           · (intro w hSw; (try dsimp only at hSw); go_simp; try with_reducible rfl)
           try simp only [Act.put, List.setIfInBounds_toArray, List.set_cons_zero, List.set_cons_succ]
           refine wpAnyH_ready (rs := [3]) (by kernel_rfl) (by simp) ?_
           refine AllReadyH.cons rfl (fun K hK => ?_) AllReadyH.nil
           go_simp
           refine (HR.out _ _ (by have := HV.out; omega)).mono ?_
           rintro e wP ⟨vP, rfl, hownP⟩
           obtain ⟨AP, dP, rfl, _, _, hslP⟩ := hownP.bytes
           have hcvP := run_str_of (P := Tryd.prog) 22 9 5 Tryd.underlying22 Tryd.underlying5 Tryd.underlying9 hslP dP
           have hcv2 := run_str_at (HSD.out.below (hownP.below.mono hb.drew.size)) 4 (cp - p) HTK.out
           have hbP := hb.drew.trans (hownP.below.mono hb.drew.size)
           go_wp2_with fail
           refine hK.out _ _ hcv2 (fun hHeld => ?_)
           clear hK K
           try simp only [Act.put, List.setIfInBounds_toArray, List.set_cons_zero, List.set_cons_succ]
           refine wpAnyH_ready (rs := [4]) (by kernel_rfl) (by simp) ?_
           refine AllReadyH.cons rfl (fun K hK => ?_) AllReadyH.nil
           go_simp
           refine hK.out _ _ hcv2 (fun hHeld => ?_)
           clear hK K
           try simp only [Act.put, List.setIfInBounds_toArray, List.set_cons_zero, List.set_cons_succ]
           refine region_take 12 (some 64) (v := ?_) rfl rfl (by kernel_rfl) (by kernel_rfl) (by kernel_rfl) (fun _ _ _ h => h) (by rfl) ?_ (by assumption) ?_
           rotate_left
           · (intro w hSw; (try dsimp only at hSw); go_simp; try with_reducible rfl)
           try simp only [Act.put, List.setIfInBounds_toArray, List.set_cons_zero, List.set_cons_succ]
           refine region_take 13 (some 65) (v := ?_) rfl rfl (by kernel_rfl) (by kernel_rfl) (by kernel_rfl) (fun _ _ _ h => h) (by rfl) ?_ (by assumption) ?_
           rotate_left
           · (intro w hSw; (try dsimp only at hSw); go_simp; try with_reducible rfl)
           try simp only [Act.put, List.setIfInBounds_toArray, List.set_cons_zero, List.set_cons_succ]
           refine wpAnyH_done (by kernel_rfl) ?_ _
           go_wp2
           go_ret2
           refine ⟨?_, hbP⟩
           rw [HF.out]
           refine ret2 ?_ rfl
           have := HV.out
           exact congrArg (Value.int .i64) (by omega)
         · have HR := Lib.hid fun c w h => refPut_int r c w h hch
           have hne : (Utf.enc r == tk) = false := by simpa using heq
           have HN2 := Lib.hid (show ∀ j, 1 ≤ j → j < 4 + 1 → ¬ Utf.Hit l j from fun j h1 h2 => by
            rcases Nat.lt_or_ge j 4 with h3 | h3
            · exact HN.out j h1 h3
            · have : j = 4 := by omega
              subst this
              intro hh
              have := hh.2.2
              rw [HRR.out, HTT.out] at this
              exact heq this)
           clear heq
           obtain ⟨en, hen⟩ : ∃ en, Utf.enc r = en := ⟨_, rfl⟩
           rw [hen] at HR hne
           clear hen
           go_wp2
           refine wp_region_held_drew (S := fun w' => (convert 22 9 (.slice (some ⟨b, off + p, none⟩) 4 (cp - p))).run Tryd.prog w' = .ok (.string ⟨tk.toArray⟩) w') (by kernel_rfl) hcv (fun hHeld => ?_)
           refine region_take 0 (some 52) (v := ?_) rfl rfl (by kernel_rfl) (by kernel_rfl) (by kernel_rfl) (fun _ _ _ h => h) (by rfl) ?_ (by assumption) ?_
           rotate_left
           · (intro w hSw; (try dsimp only at hSw); go_simp; try with_reducible rfl)
           try simp only [Act.put, List.setIfInBounds_toArray, List.set_cons_zero, List.set_cons_succ]
           refine region_take 1 (some 53) (v := ?_) rfl rfl (by kernel_rfl) (by kernel_rfl) (by kernel_rfl) (fun _ _ _ h => h) (by rfl) ?_ (by assumption) ?_
           rotate_left
           · (intro w hSw; (try dsimp only at hSw); go_simp; try with_reducible rfl)
           try simp only [Act.put, List.setIfInBounds_toArray, List.set_cons_zero, List.set_cons_succ]
           refine region_take 2 (some 54) (v := ?_) rfl rfl (by kernel_rfl) (by kernel_rfl) (by kernel_rfl) (fun _ _ _ h => h) (by rfl) ?_ (by assumption) ?_
           rotate_left
           · (intro w hSw; (try dsimp only at hSw); go_simp; try with_reducible rfl)
           try simp only [Act.put, List.setIfInBounds_toArray, List.set_cons_zero, List.set_cons_succ]
           refine region_take 5 (some 57) (v := ?_) rfl rfl (by kernel_rfl) (by kernel_rfl) (by kernel_rfl) (fun _ _ _ h => h) (by rfl) ?_ (by assumption) ?_
           rotate_left
           · (intro w hSw; (try dsimp only at hSw); go_simp; try with_reducible rfl)
           try simp only [Act.put, List.setIfInBounds_toArray, List.set_cons_zero, List.set_cons_succ]
           refine region_take 6 (some 58) (v := ?_) rfl rfl (by kernel_rfl) (by kernel_rfl) (by kernel_rfl) (fun _ _ _ h => h) (by rfl) ?_ (by assumption) ?_
           rotate_left
           · (intro w hSw; (try dsimp only at hSw); go_simp; try with_reducible rfl)
           try simp only [Act.put, List.setIfInBounds_toArray, List.set_cons_zero, List.set_cons_succ]
           refine region_take 7 (some 59) (v := ?_) rfl rfl (by kernel_rfl) (by kernel_rfl) (by kernel_rfl) (fun _ _ _ h => h) (by rfl) ?_ (by assumption) ?_
           rotate_left
           · (intro w hSw; (try dsimp only at hSw); go_simp; try with_reducible rfl)
           try simp only [Act.put, List.setIfInBounds_toArray, List.set_cons_zero, List.set_cons_succ]
           refine region_take 8 (some 60) (v := ?_) rfl rfl (by kernel_rfl) (by kernel_rfl) (by kernel_rfl) (fun _ _ _ h => h) (by rfl) ?_ (by assumption) ?_
           rotate_left
           · (intro w hSw; (try dsimp only at hSw); go_simp; try with_reducible rfl)
           try simp only [Act.put, List.setIfInBounds_toArray, List.set_cons_zero, List.set_cons_succ]
           refine region_take 9 (some 61) (v := ?_) rfl rfl (by kernel_rfl) (by kernel_rfl) (by kernel_rfl) (fun _ _ _ h => h) (by rfl) ?_ (by assumption) ?_
           rotate_left
           · (intro w hSw; (try dsimp only at hSw); go_simp; try with_reducible rfl)
           try simp only [Act.put, List.setIfInBounds_toArray, List.set_cons_zero, List.set_cons_succ]
           refine region_take 10 (some 62) (v := ?_) rfl rfl (by kernel_rfl) (by kernel_rfl) (by kernel_rfl) (fun _ _ _ h => h) (by rfl) ?_ (by assumption) ?_
           rotate_left
           · (intro w hSw; (try dsimp only at hSw); go_simp; try with_reducible rfl)
           try simp only [Act.put, List.setIfInBounds_toArray, List.set_cons_zero, List.set_cons_succ]
           refine region_take 11 (some 63) (v := ?_) rfl rfl (by kernel_rfl) (by kernel_rfl) (by kernel_rfl) (fun _ _ _ h => h) (by rfl) ?_ (by assumption) ?_
           rotate_left
           · (intro w hSw; (try dsimp only at hSw); go_simp; try with_reducible rfl)
           try simp only [Act.put, List.setIfInBounds_toArray, List.set_cons_zero, List.set_cons_succ]
           refine wpAnyH_ready (rs := [3]) (by kernel_rfl) (by simp) ?_
           refine AllReadyH.cons rfl (fun K hK => ?_) AllReadyH.nil
           go_simp
           refine (HR.out _ _ (by have := HV.out; omega)).mono ?_
           rintro e wP ⟨vP, rfl, hownP⟩
           obtain ⟨AP, dP, rfl, _, _, hslP⟩ := hownP.bytes
           have hcvP := run_str_of (P := Tryd.prog) 22 9 5 Tryd.underlying22 Tryd.underlying5 Tryd.underlying9 hslP dP
           have hcv2 := run_str_at (HSD.out.below (hownP.below.mono hb.drew.size)) 4 (cp - p) HTK.out
           have hbP := hb.drew.trans (hownP.below.mono hb.drew.size)
           go_wp2_with fail
           refine hK.out _ _ hcv2 (fun hHeld => ?_)
           clear hK K
           try simp only [Act.put, List.setIfInBounds_toArray, List.set_cons_zero, List.set_cons_succ]
           refine wpAnyH_ready (rs := [4]) (by kernel_rfl) (by simp) ?_
           refine AllReadyH.cons rfl (fun K hK => ?_) AllReadyH.nil
           go_simp
           refine hK.out _ _ hcv2 (fun hHeld => ?_)
           clear hK K
           try simp only [Act.put, List.setIfInBounds_toArray, List.set_cons_zero, List.set_cons_succ]
           refine region_take 12 (some 64) (v := ?_) rfl rfl (by kernel_rfl) (by kernel_rfl) (by kernel_rfl) (fun _ _ _ h => h) (by rfl) ?_ (by assumption) ?_
           rotate_left
           · (intro w hSw; (try dsimp only at hSw); go_simp; try with_reducible rfl)
           try simp only [Act.put, List.setIfInBounds_toArray, List.set_cons_zero, List.set_cons_succ]
           refine region_take 13 (some 65) (v := ?_) rfl rfl (by kernel_rfl) (by kernel_rfl) (by kernel_rfl) (fun _ _ _ h => h) (by rfl) ?_ (by assumption) ?_
           rotate_left
           · (intro w hSw; (try dsimp only at hSw); go_simp; try with_reducible rfl)
           try simp only [Act.put, List.setIfInBounds_toArray, List.set_cons_zero, List.set_cons_succ]
           refine wpAnyH_done (by kernel_rfl) ?_ _
           go_wp2
           go_roundw
           case rel => exact ⟨5, by omega, by omega, rfl, hbP, HN2⟩
           case measure => simp [intOf]
      · have hlt' : ¬ ((p : Int) + 4) ≤ (bs.length : Int) := by omega
        have HF := Lib.hid (atV_none (l := l) (by omega) (fun q h1 h2 h3 => HN.out q h1 (by omega)))
        go_wp2
        go_ret2
        refine ⟨?_, hb⟩
        rw [HF.out]
        rfl
    · have HF := Lib.hid (atV_none (l := l) (by omega) (fun q h1 h2 h3 => HN.out q h1 (by omega)))
      go_wp2
      go_ret2
      refine ⟨?_, hb⟩
      rw [HF.out]
      rfl

end Go.Proofs.YtfefabeamcdihaaDoor
