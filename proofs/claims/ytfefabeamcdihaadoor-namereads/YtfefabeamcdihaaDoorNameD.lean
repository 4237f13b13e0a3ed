/- grommetref02.Char and Put by their contracts. -/
import Derived.Test.YtfefabeamcdihaaDoorNameC
namespace Go.Proofs.YtfefabeamcdihaaDoor
open Go.RowKit Go.Lib

set_option maxRecDepth 100000 in
theorem refChar_any (c : Int) (w : World) : Calls Tryd.prog 14 #[.int .i64 c] w fun e w' => e = .returned (.bool (decide (0 ≤ c) && Utf.char c.toNat)) ∧ w = w' := by
  by_cases h1 : c < 0
  · rw [show (decide (0 ≤ c) && Utf.char c.toNat) = false by simp; omega]
    go_enter Tryd.func14, Tryd.ntmps14
    go_wp2
    go_ret
    exact ⟨rfl, rfl⟩
  · obtain ⟨r, rfl⟩ := Int.eq_ofNat_of_zero_le (show 0 ≤ c by omega)
    by_cases h2 : r ≤ 1114111
    · have h2' : (r : Int) ≤ 1114111 := by omega
      by_cases h3 : r < 55296
      · have h3' : (r : Int) < 55296 := by omega
        rw [show (decide (0 ≤ (r : Int)) && Utf.char (r : Int).toNat) = true by simp [Utf.char, h2, h3]]
        go_enter Tryd.func14, Tryd.ntmps14
        go_wp2
        go_ret
        exact ⟨rfl, rfl⟩
      · have h3' : ¬ (r : Int) < 55296 := by omega
        by_cases h4 : 57343 < r
        · have h4' : (57343 : Int) < (r : Int) := by omega
          rw [show (decide (0 ≤ (r : Int)) && Utf.char (r : Int).toNat) = true by simp [Utf.char, h2, h4]]
          go_enter Tryd.func14, Tryd.ntmps14
          go_wp2
          go_ret
          exact ⟨rfl, rfl⟩
        · have h4' : ¬ (57343 : Int) < (r : Int) := by omega
          rw [show (decide (0 ≤ (r : Int)) && Utf.char (r : Int).toNat) = false by simp [Utf.char, h3, h4]]
          go_enter Tryd.func14, Tryd.ntmps14
          go_wp2
          go_ret
          exact ⟨rfl, rfl⟩
    · rw [show (decide (0 ≤ (r : Int)) && Utf.char (r : Int).toNat) = false by simp [Utf.char]; omega]
      have h2' : ¬ (r : Int) ≤ 1114111 := by omega
      go_enter Tryd.func14, Tryd.ntmps14
      go_wp2
      go_ret
      exact ⟨rfl, rfl⟩

set_option maxHeartbeats 1000000 in
set_option maxRecDepth 100000 in
theorem refPut_any (r : Nat) (w : World) (h : Utf.char r = true) :
    Calls Tryd.prog 15 #[.int .i64 r] w fun e w' => ∃ v, e = .returned v ∧ Own w.heap.size w w' 5 v (u8s (Utf.enc r)) := by
  have hc : r ≤ 1114111 := by simp [Utf.char] at h; omega
  clear h
  have HL := Lib.hid fun (cs : Array Value) (h : cs.size ≤ maxLen) => Own.lit w cs 5 h
  by_cases h1 : r < 128
  · have h1' : (r : Int) < 128 := by omega
    have he : u8s (Utf.enc r) = (#[.int .u8 (r : Int)] : Array Value).toList := by
      unfold Utf.enc u8s
      rw [if_pos h1]
      simp
      omega
    rw [he]
    clear he
    go_enter Tryd.func15, Tryd.ntmps15
    go_wp2
    go_ret
    exact ⟨_, rfl, HL.out _ (by simp [maxLen])⟩
  · have h1' : ¬ (r : Int) < 128 := by omega
    by_cases h2 : r < 2048
    · have h2' : (r : Int) < 2048 := by omega
      have he : u8s (Utf.enc r) = (#[.int .u8 (192 + (r : Int) / 64), .int .u8 (128 + (r : Int) % 64)] : Array Value).toList := by
        unfold Utf.enc u8s
        rw [if_neg h1, if_pos h2]
        simp
        omega
      rw [he]
      clear he
      go_enter Tryd.func15, Tryd.ntmps15
      go_wp2
      go_ret
      exact ⟨_, rfl, HL.out _ (by simp [maxLen])⟩
    · have h2' : ¬ (r : Int) < 2048 := by omega
      by_cases h3 : r < 65536
      · have h3' : (r : Int) < 65536 := by omega
        have he : u8s (Utf.enc r) = (#[.int .u8 (224 + (r : Int) / 4096), .int .u8 (128 + (r : Int) / 64 % 64), .int .u8 (128 + (r : Int) % 64)] : Array Value).toList := by
          unfold Utf.enc u8s
          rw [if_neg h1, if_neg h2, if_pos h3]
          simp
          omega
        rw [he]
        clear he
        go_enter Tryd.func15, Tryd.ntmps15
        go_wp2
        go_ret
        exact ⟨_, rfl, HL.out _ (by simp [maxLen])⟩
      · have h3' : ¬ (r : Int) < 65536 := by omega
        have he : u8s (Utf.enc r) = (#[.int .u8 (240 + (r : Int) / 262144), .int .u8 (128 + (r : Int) / 4096 % 64), .int .u8 (128 + (r : Int) / 64 % 64), .int .u8 (128 + (r : Int) % 64)] : Array Value).toList := by
          unfold Utf.enc u8s
          rw [if_neg h1, if_neg h2, if_neg h3]
          simp
          omega
        rw [he]
        clear he
        go_enter Tryd.func15, Tryd.ntmps15
        go_wp2
        go_ret
        exact ⟨_, rfl, HL.out _ (by simp [maxLen])⟩

end Go.Proofs.YtfefabeamcdihaaDoor
