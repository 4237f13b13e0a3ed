/- The document's own answer for layer 1: contracts of grommetref01.digits and grommetref01.Read. -/
import Derived.Test.YtdmgmlhcpkampaaLebG
import Derived.Test.YtdmgmlhcpkampaaLebMath5
namespace Go.Proofs.Ytdmgmlhcpkampaa
open Go.RowKit

theorem elem_int : Elem Try.prog 3 8 := Elem.mk_ (z := .int .i64 0) (by kernel_rfl) rfl

/-- seven-bit digits as cells. -/
def digs (l : List UInt8) : List Value := l.map fun b => .int .i64 ((b.toNat % 128 : Nat) : Int)

def digV (A : Option Addr) (c : Nat) (k : Nat) : Option Nat → Value
  | some j => .tuple #[.slice A j c, .int .i64 ((k + j : Nat) : Int), .bool true]
  | none => .tuple #[.slice none 0 0, .int .i64 0, .bool false]

set_option maxHeartbeats 2000000 in
set_option maxRecDepth 100000 in
theorem digits_any (A : Option Addr) (c : Nat) (bs : List UInt8) (k : Nat) (m : Nat) (w : World) (hs : Sl w w.heap.size A (u8s bs)) (hc : bs.length ≤ c) (hm : c ≤ maxLen) (hk : k ≤ bs.length) (hm10 : m ≤ 10) :
    Calls Try.prog 22 #[.slice A bs.length c, .int .i64 k, .int .i64 m] w fun e w' =>
      (Leb.lenOf (bs.drop k) m = none ∧ e = .returned (.tuple #[.slice none 0 0, .int .i64 0, .bool false]) ∧ Below w.heap.size w w') ∨
      ∃ (j : Nat) (s : Value), Leb.lenOf (bs.drop k) m = some j ∧ e = .returned (.tuple #[s, .int .i64 ((k : Int) + j), .bool true]) ∧ Own w.heap.size w w' 3 s (digs ((bs.drop k).take j)) := by
  have hm' := hm
  unfold maxLen at hm'
  go_enter Try.func22, Try.ntmps22
  go_wp2
  go_loopw [1, 9] (fun a s wr => ∃ i : Nat, i ≤ m ∧ i ≤ bs.length - k ∧ a = .int .i64 ((k : Int) + i) ∧ Own w.heap.size w wr 3 s (digs ((bs.drop k).take i)) ∧
      Hid (∀ t (h : t < (bs.drop k).length), t < i → 128 ≤ ((bs.drop k)[t]).toNat)) (fun a _ _ => bs.length - (intOf a).toNat)
  case atStart => exact ⟨0, Nat.zero_le _, Nat.zero_le _, by simp, Own.nil_ _ _ _ (Below.refl _ _) (Nat.le_refl _), Lib.hid (fun _ _ h => absurd h (by omega))⟩
  case round =>
    obtain ⟨i, hi1, hi2, rfl, hown, HI⟩ := hrel
    by_cases hgo : i < m ∧ i < bs.length - k
    · obtain ⟨g1, g2⟩ := hgo
      have hdl : i < (bs.drop k).length := by simp; omega
      obtain ⟨b, off, rfl, hb, hcell⟩ := (hs.below hown.below) (by intro h; have := congrArg List.length h; simp at this; simp [this] at g2)
      have hcj := (hcell (k + i) (by simp; omega)).trans (u8s_get bs (k + i) (by omega))
      have hbj : bs[k + i]'(by omega) = (bs.drop k)[i] := by simp
      rw [hbj] at hcj
      have hb8 := ((bs.drop k)[i]).toNat_lt
      have hsn : digs ((bs.drop k).take (i + 1)) = digs ((bs.drop k).take i) ++ [.int .i64 ((((bs.drop k)[i]).toNat % 128 : Nat) : Int)] := by
        rw [List.take_succ_eq_append_getElem hdl]; simp [digs]
      have HSN := Lib.hid hsn
      obtain ⟨aA, cA, hform, hl1, hl2, _⟩ := hown.form
      have hlen : (digs ((bs.drop k).take i)).length = i := by simp [digs]; omega
      rw [hlen] at hform
      subst hform
      have hbI : ((k : Int) + (i : Int)).toNat = k + i := by omega
      have f1 : (0 : Int) ≤ (k : Int) + i := by omega
      have f2 : (k : Int) + i < bs.length := by omega
      have HFS := Lib.hid (fun hlt => Leb.lenOf_some (bs.drop k) m i hdl g1 hlt HI.out)
      have HI2 : 128 ≤ ((bs.drop k)[i]).toNat → Hid (∀ t (h : t < (bs.drop k).length), t < i + 1 → 128 ≤ ((bs.drop k)[t]).toNat) := fun hge => Lib.hid fun t h ht => by
        rcases Nat.lt_or_ge t i with h1 | h1
        · exact HI.out t h h1
        · have : t = i := by omega
          subst this; exact hge
      obtain ⟨x, hx⟩ : ∃ x, x = ((bs.drop k)[i]).toNat := ⟨_, rfl⟩
      rw [← hx] at hcj hb8 HSN HFS HI2
      have hcw : w.cell? ⟨b, off + (k + i), none⟩ = some (.int .u8 (x : Int)) := (hown.below.cell (p := ⟨b, off + (k + i), none⟩) hb).symm.trans hcj
      have HCW := Lib.hid hcw
      clear hx hsn hbj hcell hl1 hl2 hcw
      by_cases hsmall : x < 128
      · go_wp2_with (at_builtin; refine wpList_push rfl _ _ _ rfl _ 8 Try.underlying49 elem_int (by decide) _ _ _ _ _ _ 1 rfl hown rfl rfl (by omega) ?_; intro v' w' hown'; have hcj' := (hown'.below.cell (p := ⟨b, off + (k + i), none⟩) hb).trans HCW.out)
        go_ret3
        right
        refine ⟨i + 1, v', HFS.out hsmall, ret3 rfl (by show Value.int .i64 ((k : Int) + i + 1) = _; congr 1) rfl, ?_⟩
        rw [HSN.out]
        simpa using hown'
      · go_wp2_with (at_builtin; refine wpList_push rfl _ _ _ rfl _ 8 Try.underlying49 elem_int (by decide) _ _ _ _ _ _ 1 rfl hown rfl rfl (by omega) ?_; intro v' w' hown'; have hcj' := (hown'.below.cell (p := ⟨b, off + (k + i), none⟩) hb).trans HCW.out)
        go_roundw
        case rel => exact ⟨i + 1, by omega, by omega, by go_num, by rw [HSN.out]; simpa using hown', HI2 (by omega)⟩
        case measure => simp [intOf]; omega
    · have HFN := Lib.hid (Leb.lenOf_none (bs.drop k) m (fun t h ht => HI.out t h (by simp at h; omega)))
      obtain ⟨aA, cA, hform, hl1, hl2, _⟩ := hown.form
      have hlen : (digs ((bs.drop k).take i)).length = i := by simp [digs]; omega
      rw [hlen] at hform
      subst hform
      have hb := hown.below
      by_cases him : i < m
      · have hge : ¬ (k : Int) + i < bs.length := by omega
        go_wp2
        go_ret3
        exact .inl ⟨HFN.out, rfl, hb⟩
      · go_wp2
        go_ret3
        exact .inl ⟨HFN.out, rfl, hb⟩

end Go.Proofs.Ytdmgmlhcpkampaa
