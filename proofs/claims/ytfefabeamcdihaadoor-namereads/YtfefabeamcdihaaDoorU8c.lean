/- unicode/utf8.ValidRune and AppendRune (to nil), by their contracts. Plain lemmas, no condition. -/
import Derived.Test.YtfefabeamcdihaaDoorOwn
import Derived.Laws.BitsLemmas
import Derived.Laws.BitsAllLaws
import Derived.Laws.ShiftsVarLaws
namespace Go.Proofs.YtfefabeamcdihaaDoor
open Go.RowKit Go.Lib

theorem elem_u8 : Elem Tryd.prog 5 1 := Elem.mk_ (z := .int .u8 0) (by kernel_rfl) rfl

/-- is a number a character? -/
def Utf.char (c : Nat) : Bool := decide (c ≤ 1114111) && (decide (c < 55296) || decide (57343 < c))

set_option maxRecDepth 100000 in
theorem validRune_any (r : Nat) (w : World) (h : r ≤ 1114111) :
    Calls Tryd.prog 31 #[.int .i32 r] w fun e w' => e = .returned (.bool (Utf.char r)) ∧ w = w' := by
  have hc : Utf.char r = (decide (r < 55296) || decide (57343 < r)) := by unfold Utf.char; simp [h]
  rw [hc]
  clear hc
  have h0 : (0 : Int) ≤ (r : Int) := by omega
  have h9 : (r : Int) ≤ 1114111 := by omega
  by_cases h1 : r < 55296
  · have h1' : (r : Int) < 55296 := by omega
    rw [show (decide (r < 55296) || decide (57343 < r)) = true by simp [h1]]
    go_enter Tryd.func31, Tryd.ntmps31
    go_wp2
    go_ret
    exact ⟨rfl, rfl⟩
  · have h1' : ¬ (r : Int) < 55296 := by omega
    by_cases h2 : 57343 < r
    · have h2' : 57343 < (r : Int) := by omega
      rw [show (decide (r < 55296) || decide (57343 < r)) = true by simp [h2]]
      go_enter Tryd.func31, Tryd.ntmps31
      go_wp2
      go_ret
      exact ⟨rfl, rfl⟩
    · have h2' : ¬ 57343 < (r : Int) := by omega
      rw [show (decide (r < 55296) || decide (57343 < r)) = false by simp [h1, h2]]
      go_enter Tryd.func31, Tryd.ntmps31
      go_wp2
      go_ret
      exact ⟨rfl, rfl⟩

/-- a character's bytes. -/
def Utf.enc (c : Nat) : List UInt8 :=
  if c < 128 then [UInt8.ofNat c]
  else if c < 2048 then [UInt8.ofNat (192 + c / 64), UInt8.ofNat (128 + c % 64)]
  else if c < 65536 then [UInt8.ofNat (224 + c / 4096), UInt8.ofNat (128 + c / 64 % 64), UInt8.ofNat (128 + c % 64)]
  else [UInt8.ofNat (240 + c / 262144), UInt8.ofNat (128 + c / 4096 % 64), UInt8.ofNat (128 + c / 64 % 64), UInt8.ofNat (128 + c % 64)]
theorem Utf.enc_len (c : Nat) : 1 ≤ (Utf.enc c).length ∧ (Utf.enc c).length ≤ 4 := by
  unfold Utf.enc
  repeat' split
  all_goals simp

/-- a new row of cells, as a slice that reads as a list. -/
theorem Sl.row (w : World) (vs : List Value) (e : TypeId) : Sl (w.alloc (.cells vs.toArray e)) (w.alloc (.cells vs.toArray e)).heap.size (some ⟨w.heap.size, 0, none⟩) vs := fun _ =>
  ⟨w.heap.size, 0, rfl, by simp, fun i hi => by
    have := cell_of_row (w.alloc (.cells vs.toArray e)) w.heap.size i _ e (0, 0) (heap_alloc_new w _)
    rw [Nat.zero_add, this]; simp⟩

set_option maxHeartbeats 1000000 in
set_option maxRecDepth 100000 in
theorem nonAscii2 (r : Nat) (w : World) (h0 : 128 ≤ r) (h1 : r < 2048) :
    Calls Tryd.prog 32 #[.slice none 0 0, .int .i32 r] w fun e w' => ∃ v, e = .returned v ∧ Own w.heap.size w w' 5 v (u8s (Utf.enc r)) := by
  have he : u8s (Utf.enc r) = [.int .u8 (192 + (r : Int) / 64), .int .u8 (128 + (r : Int) % 64)] := by
    unfold Utf.enc u8s
    rw [if_neg (by omega), if_pos h1]
    simp
    omega
  rw [he]
  clear he
  have hnil := Own.nil_ (B := w.heap.size) w (w.alloc (.cells #[.int .u8 (192 + (r : Int) / 64), .int .u8 (128 + (r : Int) % 64)] 5)) 5 ((Below.refl _ _).alloc (Nat.le_refl _) _) (by simp)
  have hrow := Sl.row w [.int .u8 (192 + (r : Int) / 64), .int .u8 (128 + (r : Int) % 64)] 5
  go_enter Tryd.func32, Tryd.ntmps32
  go_wp2_with (at_builtin; refine wpList_cat rfl _ _ _ rfl _ 1 Tryd.underlying22 elem_u8 (by decide) _ _ _ _ _ _ (some ⟨w.heap.size, 0, none⟩) 2 2 _ rfl hnil rfl hrow rfl (by simp [Value.oneCell']) (by simp) ?_; intro v' w' hown')
  go_ret
  exact ⟨_, rfl, hown'⟩

set_option maxHeartbeats 1000000 in
set_option maxRecDepth 100000 in
theorem nonAscii3 (r : Nat) (w : World) (h0 : 2048 ≤ r) (h1 : r < 65536) (h2 : r < 55296 ∨ 57343 < r) :
    Calls Tryd.prog 32 #[.slice none 0 0, .int .i32 r] w fun e w' => ∃ v, e = .returned v ∧ Own w.heap.size w w' 5 v (u8s (Utf.enc r)) := by
  have he : u8s (Utf.enc r) = [.int .u8 (224 + (r : Int) / 4096), .int .u8 (128 + (r : Int) / 64 % 64), .int .u8 (128 + (r : Int) % 64)] := by
    unfold Utf.enc u8s
    rw [if_neg (by omega), if_neg (by omega), if_pos h1]
    simp
    omega
  rw [he]
  clear he
  have t0 : ¬ (r : Int) ≤ 2047 := by omega
  have t1 : (r : Int) ≤ 65535 := by omega
  have hnil := Own.nil_ (B := w.heap.size) w (w.alloc (.cells #[.int .u8 (224 + (r : Int) / 4096), .int .u8 (128 + (r : Int) / 64 % 64), .int .u8 (128 + (r : Int) % 64)] 5)) 5 ((Below.refl _ _).alloc (Nat.le_refl _) _) (by simp)
  have hrow := Sl.row w [.int .u8 (224 + (r : Int) / 4096), .int .u8 (128 + (r : Int) / 64 % 64), .int .u8 (128 + (r : Int) % 64)] 5
  rcases h2 with h2 | h2
  · have t2 : (r : Int) < 55296 := by omega
    clear h2 h0 h1
    go_enter Tryd.func32, Tryd.ntmps32
    go_wp2_with (at_builtin; refine wpList_cat rfl _ _ _ rfl _ 1 Tryd.underlying22 elem_u8 (by decide) _ _ _ _ _ _ (some ⟨w.heap.size, 0, none⟩) 3 3 _ rfl hnil rfl hrow rfl (by simp [Value.oneCell']) (by simp) ?_; intro v' w' hown')
    go_ret
    exact ⟨_, rfl, hown'⟩
  · have t2 : ¬ (r : Int) < 55296 := by omega
    have t3 : (57343 : Int) < (r : Int) := by omega
    clear h2 h0 h1
    go_enter Tryd.func32, Tryd.ntmps32
    go_wp2_with (at_builtin; refine wpList_cat rfl _ _ _ rfl _ 1 Tryd.underlying22 elem_u8 (by decide) _ _ _ _ _ _ (some ⟨w.heap.size, 0, none⟩) 3 3 _ rfl hnil rfl hrow rfl (by simp [Value.oneCell']) (by simp) ?_; intro v' w' hown')
    go_ret
    exact ⟨_, rfl, hown'⟩

set_option maxHeartbeats 1000000 in
set_option maxRecDepth 100000 in
theorem nonAscii4 (r : Nat) (w : World) (h0 : 65536 ≤ r) (h1 : r ≤ 1114111) :
    Calls Tryd.prog 32 #[.slice none 0 0, .int .i32 r] w fun e w' => ∃ v, e = .returned v ∧ Own w.heap.size w w' 5 v (u8s (Utf.enc r)) := by
  have he : u8s (Utf.enc r) = [.int .u8 (240 + (r : Int) / 262144), .int .u8 (128 + (r : Int) / 4096 % 64), .int .u8 (128 + (r : Int) / 64 % 64), .int .u8 (128 + (r : Int) % 64)] := by
    unfold Utf.enc u8s
    rw [if_neg (by omega), if_neg (by omega), if_neg (by omega)]
    simp
    omega
  rw [he]
  clear he
  have t0 : ¬ (r : Int) ≤ 2047 := by omega
  have t1 : ¬ (r : Int) ≤ 65535 := by omega
  have t2 : ¬ (r : Int) < 55296 := by omega
  have t3 : (57343 : Int) < (r : Int) := by omega
  have t4 : (65535 : Int) < (r : Int) := by omega
  have t5 : (r : Int) ≤ 1114111 := by omega
  have hnil := Own.nil_ (B := w.heap.size) w (w.alloc (.cells #[.int .u8 (240 + (r : Int) / 262144), .int .u8 (128 + (r : Int) / 4096 % 64), .int .u8 (128 + (r : Int) / 64 % 64), .int .u8 (128 + (r : Int) % 64)] 5)) 5 ((Below.refl _ _).alloc (Nat.le_refl _) _) (by simp)
  have hrow := Sl.row w [.int .u8 (240 + (r : Int) / 262144), .int .u8 (128 + (r : Int) / 4096 % 64), .int .u8 (128 + (r : Int) / 64 % 64), .int .u8 (128 + (r : Int) % 64)] 5
  go_enter Tryd.func32, Tryd.ntmps32
  go_wp2_with (at_builtin; refine wpList_cat rfl _ _ _ rfl _ 1 Tryd.underlying22 elem_u8 (by decide) _ _ _ _ _ _ (some ⟨w.heap.size, 0, none⟩) 4 4 _ rfl hnil rfl hrow rfl (by simp [Value.oneCell']) (by simp) ?_; intro v' w' hown')
  go_ret
  exact ⟨_, rfl, hown'⟩

set_option maxHeartbeats 1000000 in
set_option maxRecDepth 100000 in
theorem appendRune_any (r : Nat) (w : World) (h : Utf.char r = true) :
    Calls Tryd.prog 22 #[.slice none 0 0, .int .i32 r] w fun e w' => ∃ v, e = .returned v ∧ Own w.heap.size w w' 5 v (u8s (Utf.enc r)) := by
  have hc : r ≤ 1114111 ∧ (r < 55296 ∨ 57343 < r) := by simpa [Utf.char] using h
  clear h
  by_cases h1 : r < 128
  · have he : u8s (Utf.enc r) = [] ++ [.int .u8 (r : Int)] := by
      unfold Utf.enc u8s
      rw [if_pos h1]
      simp
      omega
    rw [he]
    clear he
    have hnil := Own.nil_ (B := w.heap.size) w w 5 (Below.refl _ _) (Nat.le_refl _)
    have t : (r : Int) ≤ 127 := by omega
    go_enter Tryd.func22, Tryd.ntmps22
    go_wp2_with (at_builtin; refine wpList_push rfl _ _ _ rfl _ 1 Tryd.underlying22 elem_u8 (by decide) _ _ _ _ _ _ 1 rfl hnil rfl rfl (by simp) ?_; intro v' w' hown')
    go_ret
    exact ⟨_, rfl, hown'⟩
  · have H := Lib.hid (show Calls Tryd.prog 32 #[.slice none 0 0, .int .i32 r] w fun e w' => ∃ v, e = .returned v ∧ Own w.heap.size w w' 5 v (u8s (Utf.enc r)) from by
      by_cases h2 : r < 2048
      · exact nonAscii2 r w (by omega) h2
      · by_cases h3 : r < 65536
        · exact nonAscii3 r w (by omega) h3 hc.2
        · exact nonAscii4 r w (by omega) hc.1)
    have t : ¬ (r : Int) ≤ 127 := by omega
    have t9 : (r : Int) ≤ 1114111 := by omega
    clear hc
    go_enter Tryd.func22, Tryd.ntmps22
    go_wp2_with fail
    with_reducible refine H.out.mono ?_
    rintro e w1 ⟨v, rfl, hown⟩
    go_wp2
    go_ret
    exact ⟨_, rfl, hown⟩

end Go.Proofs.YtfefabeamcdihaaDoor
