/- Contracts of math/bits.Len64, LeadingZeros64, TrailingZeros64, OnesCount64: for every uint64; the library's own text is walked. The table deBruijn64tab reads as its initialiser lays it (TabT). -/
import Derived.Test.YtdenmbigdklhkaaDoorMem
import Derived.Lib.Strings
import Derived.Lib.Slices
import Derived.Lib.Small
import Derived.Lib.Walk
import Derived.Lib.BitFns
import Derived.Lib.TrailingZeros
import Derived.Laws.Bits64b
import Derived.Laws.BitsAllLaws
namespace Go.Proofs.YtdenmbigdklhkaaDoor
open Go.RowKit

theorem bits_ret {k : IntKind} {a b : Int} (h : a = b) : Ending.returned (.int k a) = .returned (.int k b) := by rw [h]

/-- one way of Len64: x is shifted down by k, and a byte is left. -/
theorem len_way (k : Nat) (y : Int) (x : Nat) (hx : x < 2 ^ 64) (hk : k = 0 ∨ 2 ^ k ≤ x) (hy : y = ((x / 2 ^ k : Nat) : Int)) (hb : x / 2 ^ k ≤ 255) : (k : Int) + Lib.len8 y = (Lib.bitLen x : Int) ∧ Lib.bitLen x ≤ 64 := by
  subst hy
  have h1 := Lib.len8_of ((x / 2 ^ k : Nat) : Int) (Int.natCast_nonneg _) (Int.ofNat_le.2 hb)
  rw [Int.toNat_natCast] at h1
  refine ⟨?_, Lib.bitLen_le x 64 (by decide) hx⟩
  rw [h1]
  rcases hk with rfl | hk
  · simp
  · rw [Lib.bitLen_shift k x hk hx]
    omega

set_option maxRecDepth 100000 in
theorem len8tab_sz : (Lib.len8tab.size : Int) = 256 := by
  have : Lib.len8tab.size = 256 := by decide
  omega

theorem len8_at (y : Int) (h : y.toNat < Lib.len8tab.size) : ((Lib.len8tab[y.toNat]'h).toNat : Int) = Lib.len8 y := by
  unfold Lib.len8
  rw [getElem?_pos Lib.len8tab y.toNat h]
  rfl

theorem wrap_sum (k m : Nat) (l : Int) (h0 : 0 ≤ l) (hm : (k : Int) + l = m) (h : m ≤ 64) : wrap64 ((k : Int) + wrap64 l) = m := by
  unfold wrap64
  omega

theorem len_end (k : Nat) (y x : Int) (h : y.toNat < Lib.len8tab.size) (h0 : 0 ≤ x) (h1 : x < 18446744073709551616) (hk : k = 0 ∨ (2 ^ k : Int) ≤ x) (hy : y = x / 2 ^ k) (hb : y < 256) : wrap64 ((k : Int) + wrap64 ((Lib.len8tab[y.toNat]'h).toNat : Int)) = (Lib.bitLen x.toNat : Int) := by
  rw [len8_at y h]
  obtain ⟨z, rfl⟩ := Int.eq_ofNat_of_zero_le h0
  have hy' : y = ((z / 2 ^ k : Nat) : Int) := by rw [hy]; simp
  have hk' : k = 0 ∨ 2 ^ k ≤ z := by
    rcases hk with h | h
    · exact .inl h
    · exact .inr (by exact_mod_cast h)
  have hb' : z / 2 ^ k ≤ 255 := by rw [hy'] at hb; exact Nat.le_of_lt_succ (Int.ofNat_lt.1 hb)
  have hw := len_way k y z (by omega) hk' hy' hb'
  have h8 : 0 ≤ Lib.len8 y := by rw [← len8_at y h]; exact Int.natCast_nonneg _
  rw [Int.toNat_natCast]
  exact wrap_sum k _ _ h8 hw.1 hw.2

/-- the table of TrailingZeros64. -/
def TabT (w : World) : Prop := ∀ j, j < 64 → w.cell? ⟨0, j, none⟩ = some (.int .u8 ((Lib.deBruijn64tab.getD j 0 : Nat) : Int))

set_option maxHeartbeats 4000000 in
set_option maxRecDepth 100000 in
theorem Len64_any (x : Int) (w : World) (h0 : 0 ≤ x) (h1 : x < 18446744073709551616) :
    Calls Tryd.prog 43 #[.int .u64 x] w fun e w' => e = .returned (.int .i64 (Lib.bitLen x.toNat)) ∧ w = w' := by
  have hsz := len8tab_sz
  go_enter Tryd.func43, Tryd.ntmps43
  go_wp2
  all_goals (go_ret; refine ⟨bits_ret ?_, rfl⟩)
  · exact len_end 56 _ x _ h0 h1 (.inr (by omega)) (by omega) (by omega)
  · exact len_end 48 _ x _ h0 h1 (.inr (by omega)) (by omega) (by omega)
  · exact len_end 40 _ x _ h0 h1 (.inr (by omega)) (by omega) (by omega)
  · exact len_end 32 _ x _ h0 h1 (.inr (by omega)) (by omega) (by omega)
  · exact len_end 24 _ x _ h0 h1 (.inr (by omega)) (by omega) (by omega)
  · exact len_end 16 _ x _ h0 h1 (.inr (by omega)) (by omega) (by omega)
  · exact len_end 8 _ x _ h0 h1 (.inr (by omega)) (by omega) (by omega)
  · have hz := len_end 0 x x (by omega) h0 h1 (.inl rfl) (by omega) (by omega)
    rw [Int.natCast_zero, Int.zero_add] at hz
    exact hz

theorem LeadingZeros64_any (x : Int) (w : World) (h0 : 0 ≤ x) (h1 : x < 18446744073709551616) :
    Calls Tryd.prog 29 #[.int .u64 x] w fun e w' => e = .returned (.int .i64 (64 - Lib.bitLen x.toNat)) ∧ w = w' := by
  have hl : Lib.bitLen x.toNat ≤ 64 := Lib.bitLen_le x.toNat 64 (by decide) (by omega)
  have H := Lib.hid (fun w => Len64_any x w h0 h1)
  obtain ⟨m, hm⟩ : ∃ m, m = Lib.bitLen x.toNat := ⟨_, rfl⟩
  rw [← hm] at H hl ⊢
  clear hm
  go_enter Tryd.func29, Tryd.ntmps29
  go_wp2_with (go_at_call 43; refine (H.out _).mono ?_; rintro e w' ⟨rfl, rfl⟩)
  go_ret
  exact ⟨rfl, rfl⟩

/-- the place in the table, where the lowest bit of x is 2 to k. -/
theorem tz_key (x k : Nat) (hx : x < 18446744073709551616) (h0 : x ≠ 0) (hl : x &&& (18446744073709551616 - x) = 2 ^ k) :
    IntKind.u64.wrap (bits .and .u64 (x : Int) (IntKind.u64.wrap (-(x : Int))) * 285870213051353865) / 288230376151711744 = ((2 ^ k * 285870213051353865 % 18446744073709551616 / 288230376151711744 : Nat) : Int) := by
  have hn : IntKind.u64.wrap (-(x : Int)) = ((18446744073709551616 - x : Nat) : Int) := by
    rw [IntKind.wrap_u64]
    omega
  have ha := u64_and_nat x (18446744073709551616 - x) hx (by omega)
  rw [hl] at ha
  rw [hn, ha, IntKind.wrap_u64]
  generalize 2 ^ k = p
  omega

set_option maxHeartbeats 4000000 in
set_option maxRecDepth 100000 in
theorem tz_core (x : Int) (k i : Nat) (w : World) (hx0 : (x == 0) = false)
    (key : IntKind.u64.wrap (bits BinOp.and IntKind.u64 x (IntKind.u64.wrap (-x)) * 285870213051353865) / 288230376151711744 = (i : Int))
    (hi : i < 64) (hk : k < 64) (hcell : w.cell? ⟨0, i, none⟩ = some (.int .u8 (k : Int))) :
    Calls Tryd.prog 30 #[.int .u64 x] w fun e w' => e = .returned (.int .i64 (k : Int)) ∧ w = w' := by
  go_enter Tryd.func30, Tryd.ntmps30
  go_wp2_with (simp only [key])
  go_ret
  exact ⟨rfl, rfl⟩

theorem tz_zero (w : World) : Calls Tryd.prog 30 #[.int .u64 0] w fun e w' => e = .returned (.int .i64 64) ∧ w = w' := by
  go_enter Tryd.func30, Tryd.ntmps30
  go_wp2
  go_ret
  exact ⟨rfl, rfl⟩

theorem TrailingZeros64_any (x : Int) (w : World) (h0 : 0 ≤ x) (h1 : x < 18446744073709551616) (hT : TabT w) :
    Calls Tryd.prog 30 #[.int .u64 x] w fun e w' => e = .returned (.int .i64 (Lib.ctz 64 x.toNat)) ∧ w = w' := by
  obtain ⟨z, rfl⟩ := Int.eq_ofNat_of_zero_le h0
  rw [Int.toNat_natCast]
  by_cases hx0 : z = 0
  · subst hx0
    exact tz_zero w
  · obtain ⟨hlow, hk⟩ := Lib.lowest_bit 64 z hx0 (by omega)
    obtain ⟨hi, htab⟩ := Lib.deBruijn64_at _ hk
    have hcell := hT _ hi
    rw [htab] at hcell
    exact tz_core z _ _ w (by simp; omega) (tz_key z _ (by omega) hx0 hlow) hi hk hcell

set_option maxHeartbeats 4000000 in
set_option maxRecDepth 100000 in
theorem oc_core (x y1 y2 y3 y4 y5 y6 r : Int) (w : World)
    (k1 : IntKind.u64.wrap (bits .and .u64 (x / 2) 6148914691236517205 + bits .and .u64 x 6148914691236517205) = y1)
    (k2 : IntKind.u64.wrap (bits .and .u64 (y1 / 4) 3689348814741910323 + bits .and .u64 y1 3689348814741910323) = y2)
    (k3 : bits .and .u64 (IntKind.u64.wrap (y2 / 16 + y2)) 1085102592571150095 = y3)
    (k4 : IntKind.u64.wrap (y3 + y3 / 256) = y4)
    (k5 : IntKind.u64.wrap (y4 + y4 / 65536) = y5)
    (k6 : IntKind.u64.wrap (y5 + y5 / 4294967296) = y6)
    (k7 : bits .and .i64 (wrap64 y6) 127 = r) :
    Calls Tryd.prog 31 #[.int .u64 x] w fun e w' => e = .returned (.int .i64 r) ∧ w = w' := by
  go_enter Tryd.func31, Tryd.ntmps31
  go_wp2_with (simp only [k1, k2, k3, k4, k5, k6, k7])
  go_ret
  exact ⟨rfl, rfl⟩

end Go.Proofs.YtdenmbigdklhkaaDoor
