/- The head of the statements of layer 1 (grommetlaw01.up) returns true; nothing that was there changes. -/
import Derived.Test.YtdmgmlhcpkampaaLebC
namespace Go.Proofs.Ytdmgmlhcpkampaa
open Go.RowKit

theorem below_drewN {B : Nat} {a w : World} (h : Below B a w) (n : Nat) : Below B a (w.drewN n) := ⟨h.os, h.tape, h.output, h.size, h.block⟩

/-- leb.U in the words that a caller has: any length and place, as numbers. -/
theorem U_int {A : Option Addr} {n c : Nat} {bs : List UInt8} {at_ bits : Int} {w : World} {B : Nat} (r : Option (Nat × Nat)) (hs : Sl w B A (u8s bs)) (hB : B ≤ w.heap.size) (hn : bs.length = n) (hc : n ≤ c) (hm : c ≤ maxLen)
   (h0 : 1 ≤ bits) (h1 : bits ≤ 64) (h2 : 0 ≤ at_) (h3 : at_ ≤ n) (hr : Leb.uOf bs at_.toNat bits.toNat = r) :
    Calls Try.prog 10 #[.slice A n c, .int .i64 at_, .int .i64 bits] w fun e w' => e = .returned (uV r) ∧ ∃ nq, w' = w.drewN nq := by
  subst hn hr
  obtain ⟨k, rfl⟩ := Int.eq_ofNat_of_zero_le h2
  exact U_any A c bs k bits w (hs.more hB) hc hm h0 h1 (by omega)
theorem S_int {A : Option Addr} {n c : Nat} {bs : List UInt8} {at_ bits : Int} {w : World} {B : Nat} (r : Option (Int × Nat)) (hs : Sl w B A (u8s bs)) (hB : B ≤ w.heap.size) (hn : bs.length = n) (hc : n ≤ c) (hm : c ≤ maxLen)
   (h0 : 1 ≤ bits) (h1 : bits ≤ 64) (h2 : 0 ≤ at_) (h3 : at_ ≤ n) (hr : Leb.sOf bs at_.toNat bits.toNat = r) :
    Calls Try.prog 11 #[.slice A n c, .int .i64 at_, .int .i64 bits] w fun e w' => e = .returned (sV r) ∧ w = w' := by
  subst hn hr
  obtain ⟨k, rfl⟩ := Int.eq_ofNat_of_zero_le h2
  exact S_any A c bs k bits w (hs.more hB) hc hm h0 h1 (by omega)

/-- a literal slice of bytes. -/
theorem Sl.lit (w : World) (bs : List UInt8) (e : TypeId) : Sl (w.alloc (.cells (u8s bs).toArray e)) (w.alloc (.cells (u8s bs).toArray e)).heap.size (some ⟨w.heap.size, 0, none⟩) (u8s bs) := fun _ =>
  ⟨w.heap.size, 0, rfl, by simp, fun i hi => by
    have := cell_of_row (w.alloc (.cells (u8s bs).toArray e)) w.heap.size i _ e (0, 0) (heap_alloc_new w _)
    rw [Nat.zero_add, this]; simp⟩

theorem Leb.up1 : Leb.uOf [229, 142, 38] 0 32 = some (624485, 3) := by decide
theorem Leb.up2 : Leb.sOf [127] 0 32 = some (-1, 1) := by decide
theorem Leb.up3 : Leb.putS 64 = [192, 0] := by
  rw [Leb.putS_big (by decide), Leb.putS_small (by decide)]; decide

set_option maxHeartbeats 1000000 in
set_option maxRecDepth 100000 in
theorem up_any (w : World) : Calls Try.prog 9 #[] w fun e w' => e = .returned (.bool true) ∧ Below w.heap.size w w' := by
  have hU : ∀ w : World, Calls Try.prog 10 #[.slice (some ⟨w.heap.size, 0, none⟩) 3 3, .int .i64 0, .int .i64 32] (w.alloc (.cells #[.int .u8 229, .int .u8 142, .int .u8 38] 5))
      fun e w' => e = .returned (.tuple #[.int .u64 624485, .int .i64 3, .nilIface]) ∧ ∃ nq, w' = (w.alloc (.cells #[.int .u8 229, .int .u8 142, .int .u8 38] 5)).drewN nq := fun w => by
    have h := U_any (some ⟨w.heap.size, 0, none⟩) 3 [229, 142, 38] 0 32 _ (Sl.lit w [229, 142, 38] 5) (by decide) (by decide) (by decide) (by decide) (by decide)
    rw [show (32 : Int).toNat = 32 from rfl, Leb.up1] at h
    exact h
  have hS : ∀ w : World, Calls Try.prog 11 #[.slice (some ⟨w.heap.size, 0, none⟩) 1 1, .int .i64 0, .int .i64 32] (w.alloc (.cells #[.int .u8 127] 5))
      fun e w' => e = .returned (.tuple #[.int .i64 (-1), .int .i64 1, .nilIface]) ∧ (w.alloc (.cells #[.int .u8 127] 5)) = w' := fun w => by
    have h := S_any (some ⟨w.heap.size, 0, none⟩) 1 [127] 0 32 _ (Sl.lit w [127] 5) (by decide) (by decide) (by decide) (by decide) (by decide)
    rw [show (32 : Int).toNat = 32 from rfl, Leb.up2] at h
    exact h
  have hP : ∀ w : World, Calls Try.prog 16 #[.int .i64 64] w fun e w' => ∃ s, e = .returned s ∧ Own w.heap.size w w' 5 s (u8s [192, 0]) := fun w => by
    have h := PutS_any 64 w (by decide) (by decide)
    rw [Leb.up3] at h
    exact h
  have HU := Lib.hid hU
  have HS := Lib.hid hS
  have HP := Lib.hid hP
  clear hU hS hP
  go_enter Try.func9, Try.ntmps9
  go_wp2_with fail
  with_reducible refine (HU.out _).mono ?_
  rintro e w1 ⟨rfl, nq, hw1⟩
  have hb1 : Below w.heap.size w w1 := by rw [hw1]; exact below_drewN ((Below.refl _ _).alloc (Nat.le_refl _) _) _
  clear hw1
  go_wp2_with fail
  with_reducible refine (HS.out _).mono ?_
  rintro e w2 ⟨rfl, hw2⟩
  have hb2 : Below w.heap.size w w2 := by rw [← hw2]; exact hb1.alloc hb1.size _
  clear hw2 hb1
  go_wp2_with fail
  with_reducible refine (HP.out _).mono ?_
  rintro e w3 ⟨s, rfl, hown⟩
  obtain ⟨A, c, rfl, _, _, hsl⟩ := hown.bytes
  have hcv : (convert 22 9 (.slice A 2 c)).run Try.prog w3 = .ok (.string ⟨#[192, 0]⟩) w3 := run_str_of (P := Try.prog) 22 9 5 Try.underlying22 Try.underlying5 Try.underlying9 hsl c
  have hb3 := hb2.trans (hown.below.mono hb2.size)
  clear hown hsl
  go_wp2
  go_ret
  exact ⟨rfl, hb3⟩

end Go.Proofs.Ytdmgmlhcpkampaa
