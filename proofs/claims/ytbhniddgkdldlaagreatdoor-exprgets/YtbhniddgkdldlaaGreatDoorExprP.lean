/- Contracts of layer 6's writer: a row of bytes of the call's own that grows; expr.putNumber, resultByte, signed, putLabels. -/
import Derived.Test.YtbhniddgkdldlaaGreatDoorTreeCp0
import Derived.Test.YtbhniddgkdldlaaGreatDoorLebT
import Derived.Test.YtbhniddgkdldlaaGreatDoorExprM
import Derived.Test.YtbhniddgkdldlaaGreatDoorOpT
set_option linter.unusedVariables false
set_option linter.unusedSimpArgs false
namespace Go.Proofs.YtbhniddgkdldlaaGreatDoor
open Go.RowKit Trx

/-- v is a row of bytes of the call's own (from w0 on) that holds bs; what w0 has stays. -/
def OwB (w0 w : World) (v : Value) (bs : List UInt8) : Prop := OwnK w0.heap.size w0 w 5 1 v (ones (u8s bs))
/-- a block that isn't the row's own stays, and doesn't become the row's. -/
structure Kp (w : World) (v : Value) (w' : World) (v' : Value) : Prop where
  keep : ∀ m, m < w.heap.size → v.ownBlock ≠ some m → w'.heap[m]? = w.heap[m]? ∧ v'.ownBlock ≠ some m
  size : w.heap.size ≤ w'.heap.size
section
variable {w0 w w' w1 w2 : World} {v v' v1 v2 : Value} {bs : List UInt8}
theorem Kp.refl_ : Kp w v w v := ⟨fun _ _ h => ⟨rfl, h⟩, Nat.le_refl _⟩
theorem Kp.trans (h : Kp w v w1 v1) (h2 : Kp w1 v1 w2 v2) : Kp w v w2 v2 := by
  refine ⟨fun m hm hv => ?_, Nat.le_trans h.size h2.size⟩
  obtain ⟨e1, e2⟩ := h.keep m hm hv
  obtain ⟨e3, e4⟩ := h2.keep m (Nat.lt_of_lt_of_le hm h.size) e2
  exact ⟨e3.trans e1, e4⟩
theorem Kp.of_below (h : Below w.heap.size w w') : Kp w v w' v := ⟨fun m hm hv => ⟨h.block m hm, hv⟩, h.size⟩
theorem Kp.alloc (h : Kp w v w1 v1) (o : Obj) : Kp w v (w1.alloc o) v1 := h.trans (.of_below ((Below.refl _ _).alloc (Nat.le_refl _) o))
theorem Kp.drewN (h : Kp w v w1 v1) (n : Nat) : Kp w v (w1.drewN n) v1 := ⟨h.keep, h.size⟩
theorem Kp.cell (h : Kp w v w' v') {b o : Nat} (hb : b < w.heap.size) (hv : v.ownBlock ≠ some b) : w'.cell? ⟨b, o, none⟩ = w.cell? ⟨b, o, none⟩ := World.cell?_of_block (h.keep b hb hv).1
theorem OwB.later (h : OwB w0 w v bs) (hb : Below w.heap.size w w') : OwB w0 w' v bs := OwnK.later h hb
theorem OwB.below (h : OwB w0 w v bs) : Below w0.heap.size w0 w := OwnK.below h
theorem OwB.drewN (h : OwB w0 w v bs) (n : Nat) : OwB w0 (w.drewN n) v bs := OwnK.drewN h n
theorem OwB.new (h : OwB w0 w v bs) {m : Nat} (hm : w.heap.size ≤ m) : v.ownBlock ≠ some m := fun e => by
  have := (OwnK.own_lt h e).2
  omega
theorem OwB.old (h : OwB w0 w v bs) {m : Nat} (hm : m < w0.heap.size) : v.ownBlock ≠ some m := fun e => by
  have := (OwnK.own_lt h e).1
  omega
end
theorem elem_b : ElemK Tryz.prog 5 1 1 := ElemK.mk_ (z := .int .u8 0) (by kernel_rfl) rfl
theorem ones_app (a b : List UInt8) : ones (u8s (a ++ b)) = ones (u8s a) ++ ones (u8s b) := by simp [ones, u8s]
theorem u8_ones (bs : List UInt8) : ∀ r ∈ ones (u8s bs), ∀ u ∈ r, u.oneCell' = true := by
  intro r hr u hu
  obtain ⟨x, hx, rfl⟩ := List.mem_map.1 hr
  simp at hu
  subst hu
  obtain ⟨z, _, rfl⟩ := List.mem_map.1 hx
  rfl
/-- leb.PutU of a number, in memory of its own. -/
theorem PutU_e (n : Int) (w : World) (h0 : 0 ≤ n) (h1 : n < 18446744073709551616) :
    Calls Tryz.prog 82 #[.int .u64 n] w fun e w' => ∃ A c, e = .returned (.slice A (eN n).length c) ∧ Sl w' w'.heap.size A (u8s (eN n)) ∧ Below w.heap.size w w' := by
  have h := PutU_any n.toNat w (by omega)
  rw [Int.toNat_of_nonneg h0] at h
  have e : eN n = Leb.putU n.toNat := by unfold eN; rw [show (n % 18446744073709551616).toNat = n.toNat by omega]
  rw [e]
  refine h.mono ?_
  rintro e w' ⟨s, rfl, ho⟩
  obtain ⟨A, c, rfl, -, -, hs⟩ := ho.bytes
  exact ⟨A, c, rfl, hs, ho.below⟩
theorem PutS_e (z : Int) (w : World) (h0 : -9223372036854775808 ≤ z) (h1 : z < 9223372036854775808) :
    Calls Tryz.prog 58 #[.int .i64 z] w fun e w' => ∃ A c, e = .returned (.slice A (Leb.putS z).length c) ∧ Sl w' w'.heap.size A (u8s (Leb.putS z)) ∧ Below w.heap.size w w' := by
  refine (PutS_any z w h0 h1).mono ?_
  rintro e w' ⟨s, rfl, ho⟩
  obtain ⟨A, c, rfl, -, -, hs⟩ := ho.bytes
  exact ⟨A, c, rfl, hs, ho.below⟩

/-- what a writer leaves. -/
def Wrote (w0 w : World) (v : Value) (bs : List UInt8) : Ending → World → Prop := fun e w' => ∃ v', e = .returned v' ∧ OwB w0 w' v' bs ∧ Kp w v w' v'

set_option maxHeartbeats 4000000 in
set_option maxRecDepth 100000 in
theorem putNumber_any (n : Int) (v : Value) (bs : List UInt8) (w0 w : World) (h0 : 0 ≤ n) (h1 : n < 4611686018427387904) (ho : OwB w0 w v bs) (hl : bs.length ≤ 100000000) :
    Calls Tryz.prog 56 #[v, .int .i64 n] w (Wrote w0 w v (bs ++ eN n)) := by
  have hn10 := eN_len n
  have HP := Lib.hid (fun w => PutU_e n w h0 (by omega))
  have HO := Lib.hid ho
  clear ho
  unfold Wrote
  go_enter Tryz.func56, Tryz.ntmps56
  go_wp2_with (first
    | (go_at_call 82; (with_reducible refine (HP.out _).mono ?_); rintro e w1 ⟨A1, c1, rfl, hs1, hb1⟩; have HS := Lib.hid hs1; have HB := Lib.hid hb1; clear hs1 hb1)
    | (at_builtin; refine wpList_catK rfl (.tmp 5) (.tmp 8) _ rfl 1 Tryz.underlying26 elem_b (by decide) rfl (HO.out.later HB.out) rfl HS.out.ones (ones_len _) (by simp) (u8_ones _) (by simp; omega) (by simp; unfold maxLen; omega) ?_; intro v1 w2 ho2 hk2 hs2; rw [← ones_app] at ho2; have HO2 := Lib.hid (show OwB w0 w2 v1 _ from ho2); have HK := Lib.hid ((Kp.of_below HB.out).trans ⟨hk2, hs2⟩); clear ho2 hk2))
  go_ret
  exact ⟨v1, rfl, HO2.out, HK.out⟩
end Go.Proofs.YtbhniddgkdldlaaGreatDoor

/- A row of bytes of the call's own reads as its bytes. Plain lemma, no condition. -/
namespace Go.Proofs.YtbhniddgkdldlaaGreatDoor
open Go.RowKit Trx
theorem OwB.form2 {w0 w : World} {v : Value} {bs : List UInt8} (h : OwB w0 w v bs) : ∃ A c, v = .slice A bs.length c ∧ bs.length ≤ c ∧ c ≤ maxLen ∧ Sl w w.heap.size A (u8s bs) := by
  obtain ⟨A, c, hv, h1, h2, h3⟩ := OwnK.form h
  rw [ones_length, u8s_length] at hv h1
  exact ⟨A, c, hv, h1, h2, h3.sl⟩
end Go.Proofs.YtbhniddgkdldlaaGreatDoor

/- Contracts of layer 6's writer: expr.resultByte, signed, behind, putLabels. -/
namespace Go.Proofs.YtbhniddgkdldlaaGreatDoor
open Go.RowKit Trx

set_option maxRecDepth 100000 in
theorem resultByte_any (t : Int) (w : World) (h0 : 0 ≤ t) (h2 : t ≤ 2) : Calls Tryz.prog 81 #[.int .i64 t] w fun e w' => e = .returned (.int .u8 (eRes t).toNat) ∧ w = w' := by
  have : t = 0 ∨ t = 1 ∨ t = 2 := by omega
  rcases this with rfl | rfl | rfl
  all_goals
    go_enter Tryz.func81, Tryz.ntmps81
    go_wp2
    go_ret
    exact ⟨rfl, rfl⟩

theorem signed_32 (v : Int) (w : World) (h0 : 0 ≤ v) (h1 : v ≤ 4294967295) : Calls Tryz.prog 59 #[.int .u64 v, .int .i64 1] w fun e w' => e = .returned (.int .i64 (s32 v)) ∧ w = w' := by
  go_enter Tryz.func59, Tryz.ntmps59
  go_wp2
  go_ret
  refine ⟨ret_int ?_, rfl⟩
  unfold wrap64 wrap32 s32
  split <;> omega
theorem signed_64 (v t : Int) (w : World) (h0 : 0 ≤ v) (h1 : v ≤ 18446744073709551615) (ht : t ≠ 1) : Calls Tryz.prog 59 #[.int .u64 v, .int .i64 t] w fun e w' => e = .returned (.int .i64 (s64 v)) ∧ w = w' := by
  go_enter Tryz.func59, Tryz.ntmps59
  go_wp2
  go_ret
  refine ⟨ret_int ?_, rfl⟩
  unfold wrap64 s64
  split <;> omega

/-- what stands behind an operation's byte, by a number. -/
def bh (b k : Int) : Int := if b = 14 then 5 else if b = 15 then 0 else if b = 17 then 3 else if k = 2 then 1 else if k = 3 ∨ k = 4 ∨ k = 6 then 2 else if k = 7 ∨ k = 8 then 4 else if k = 9 then 6 else if k = 10 then 7 else 0
set_option maxHeartbeats 2000000 in
set_option maxRecDepth 100000 in
theorem behind_any (b k g y : Int) (nm : ByteArray) (tv : Value) (sn : Bool) (w : World) : Calls Tryz.prog 54 #[.agg #[.int .i64 b, .string nm, .int .i64 k, tv, .int .i64 g, .int .i64 y, .bool sn]] w fun e w' => e = .returned (.int .i64 (bh b k)) ∧ Below w.heap.size w w' := by
  go_enter Tryz.func54, Tryz.ntmps54
  go_wp2
  all_goals
    go_ret
    refine ⟨ret_int ?_, (Below.refl _ _).alloc (Nat.le_refl _) _⟩
    simp only [beq_iff_eq, beq_eq_false_iff_ne, ne_eq] at *
    unfold bh
    (repeat' split) <;> omega

def LbL (w0 : World) (v : Value) (w : World) (bs : List UInt8) (L : List Int) (x i : Value) (wr : World) : Prop :=
  ∃ j : Nat, j ≤ L.length ∧ i = .int .i64 j ∧ OwB w0 wr x (bs ++ (L.take j).flatMap eN) ∧ Kp w v wr x
set_option maxHeartbeats 4000000 in
set_option maxRecDepth 100000 in
theorem putLabels_any (L : List Int) (A : Option Addr) (c : Nat) (v : Value) (bs : List UInt8) (w0 w : World) (hne : L ≠ []) (hn : L.all num32 = true) (hL : Sl w0 w0.heap.size A (n64s L)) (ho : OwB w0 w v bs) (hl : bs.length + 10 * L.length ≤ 90000000) :
    Calls Tryz.prog 57 #[v, .slice A L.length c] w (Wrote w0 w v (bs ++ (eN ((L.length : Int) - 1) ++ L.flatMap eN))) := by
  have hpos : 0 < L.length := List.length_pos_iff.2 hne
  have hb := ho.below
  have HO := Lib.hid ho
  have HL := Lib.hid hL
  have HN := Lib.hid hn
  have h10 := eN_len ((L.length : Int) - 1)
  have HP := Lib.hid (fun n v bs w h0 h1 ho hl => putNumber_any n v bs w0 w h0 h1 ho hl)
  clear ho hL hn hb
  unfold Wrote
  go_enter Tryz.func57, Tryz.ntmps57
  go_wp2_with (first
    | (go_at_call 56; (with_reducible refine (HP.out _ _ _ _ (by omega) (by omega) HO.out (by omega)).mono ?_); rintro e w1 ⟨v1, rfl, ho1, hk1⟩; have HO1 := Lib.hid ho1; have HK1 := Lib.hid hk1; clear ho1 hk1))
  go_loopw [0, 14] (fun x i wr => LbL w0 v w (bs ++ eN ((L.length : Int) - 1)) L x i wr) (fun _ i _ => L.length - (intOf i).toNat)
  case atStart => exact ⟨0, Nat.zero_le _, rfl, by simpa using HO1.out, HK1.out⟩
  case round =>
    obtain ⟨j, hj, rfl, hoj, hkj⟩ := hrel
    have HOj := Lib.hid hoj
    have HKj := Lib.hid hkj
    have hbel := hoj.below
    by_cases hlt : j < L.length
    · obtain ⟨b, o, rfl, hbl, hc⟩ := HL.out (by intro e; have := congrArg List.length e; exact hne (by simpa using this))
      have q := (hbel.cell (p := ⟨b, o + j, none⟩) hbl).trans (hc j (by simpa using hlt))
      have hq : (n64s L)[j]? = some (.int .i64 L[j]) := by simp [n64s, hlt]
      rw [hq] at q
      have hb' := Nat.lt_of_lt_of_le hbl hbel.size
      have hnj := (num32_iff _).1 (List.all_eq_true.1 HN.out L[j] (List.getElem_mem hlt))
      have hfl := flat_len (L.take j)
      have htl : (L.take j).length ≤ j := List.length_take_le _ _
      have hlen : (bs ++ eN ((L.length : Int) - 1) ++ (L.take j).flatMap eN).length ≤ 100000000 := by simp only [List.length_append]; omega
      have HLn := Lib.hid hlen
      have n0 := hnj.1
      have n1 : L[j] < 4611686018427387904 := Int.lt_of_le_of_lt hnj.2 (by decide)
      have HT : Hid (L.take (j + 1) = L.take j ++ [L[j]]) := Lib.hid (by rw [List.take_add_one]; simp [hlt])
      obtain ⟨z, hz⟩ : ∃ z, z = L[j] := ⟨_, rfl⟩
      rw [← hz] at q n0 n1 HT
      clear hz hnj hoj hkj hbel hc hfl htl hlen hq
      go_wp2_with (first
        | (go_at_call 56; (with_reducible refine (HP.out _ _ _ _ (by omega) (by omega) HOj.out HLn.out).mono ?_); rintro e w2 ⟨v2, rfl, ho2, hk2⟩; have HO2 := Lib.hid ho2; have HK2 := Lib.hid hk2; clear ho2 hk2))
      go_roundw
      case rel => exact ⟨j + 1, by omega, by go_num, by rw [HT.out, List.flatMap_append, ← List.append_assoc]; simpa using HO2.out, HKj.out.trans HK2.out⟩
      case measure => simp [intOf]; omega
    · clear hoj hkj hbel
      have ht : L.take j = L := List.take_of_length_le (by omega)
      rw [ht] at HOj
      go_wp2_with fail
      go_ret
      exact ⟨_, rfl, by rw [← List.append_assoc]; exact HOj.out, HKj.out⟩
end Go.Proofs.YtbhniddgkdldlaaGreatDoor
