/- The document's own answer for layer 1: contracts of grommetref01.digits and grommetref01.Read. -/
import Derived.Test.YthkdpcoacjgomaaDoorLebT7
import Derived.Test.YthkdpcoacjgomaaDoorLebN
import Derived.Deep.DeepCutAuto
import Derived.Test.YthkdpcoacjgomaaDoorErrs
import Derived.Test.YthkdpcoacjgomaaDoorLebM
set_option linter.unusedVariables false
set_option linter.unusedSimpArgs false
namespace Go.Proofs.YthkdpcoacjgomaaDoor
open Go.RowKit

theorem elem_int1 : Elem Tryd.prog 3 8 := Elem.mk_ (z := .int .i64 0) (by kernel_rfl) rfl

/-- seven-bit digits as cells. -/
def digs (l : List UInt8) : List Value := l.map fun b => .int .i64 ((b.toNat % 128 : Nat) : Int)

def digV (A : Option Addr) (c : Nat) (k : Nat) : Option Nat → Value
  | some j => .tuple #[.slice A j c, .int .i64 ((k + j : Nat) : Int), .bool true]
  | none => .tuple #[.slice none 0 0, .int .i64 0, .bool false]

set_option maxHeartbeats 2000000 in
set_option maxRecDepth 100000 in
theorem digits_any (A : Option Addr) (c : Nat) (bs : List UInt8) (k : Nat) (m : Nat) (w : World) (hs : Sl w w.heap.size A (u8s bs)) (hc : bs.length ≤ c) (hm : c ≤ maxLen) (hk : k ≤ bs.length) (hm10 : m ≤ 10) :
    Calls Tryd.prog 30 #[.slice A bs.length c, .int .i64 k, .int .i64 m] w fun e w' =>
      (Leb.lenOf (bs.drop k) m = none ∧ e = .returned (.tuple #[.slice none 0 0, .int .i64 0, .bool false]) ∧ Below w.heap.size w w') ∨
      ∃ (j : Nat) (s : Value), Leb.lenOf (bs.drop k) m = some j ∧ e = .returned (.tuple #[s, .int .i64 ((k : Int) + j), .bool true]) ∧ Own w.heap.size w w' 3 s (digs ((bs.drop k).take j)) := by
  have hm' := hm
  unfold maxLen at hm'
  go_enter Tryd.func30, Tryd.ntmps30
  go_wp2
  go_loopw [1, 9] (fun a s wr => ∃ i : Nat, i ≤ m ∧ i ≤ bs.length - k ∧ a = .int .i64 ((k : Int) + i) ∧ Own w.heap.size w wr 3 s (digs ((bs.drop k).take i)) ∧
      Hid (∀ t (h : t < (bs.drop k).length), t < i → 128 ≤ ((bs.drop k)[t]).toNat)) (fun a _ _ => bs.length - (intOf a).toNat)
  case atStart => exact ⟨0, Nat.zero_le _, Nat.zero_le _, by simp, Own.nil_ _ _ _ (Below.refl _ _) (Nat.le_refl _), Lib.hid (fun _ _ h => absurd h (by omega))⟩
  case round =>
    obtain ⟨i, hi1, hi2, rfl, hown, HI⟩ := hrel
    by_cases hgo : i < m ∧ i < bs.length - k
    · obtain ⟨g1, g2⟩ := hgo
      have hdl : i < (bs.drop k).length := by simp; omega
      obtain ⟨b, off, rfl, hb, hcell⟩ := (hs.below hown.below) (by intro h; have := congrArg List.length h; simp at this; simp [this] at g2)
      have hcj := (hcell (k + i) (by simp; omega)).trans (u8s_get bs (k + i) (by omega))
      have hbj : bs[k + i]'(by omega) = (bs.drop k)[i] := by simp
      rw [hbj] at hcj
      have hb8 := ((bs.drop k)[i]).toNat_lt
      have hsn : digs ((bs.drop k).take (i + 1)) = digs ((bs.drop k).take i) ++ [.int .i64 ((((bs.drop k)[i]).toNat % 128 : Nat) : Int)] := by
        rw [List.take_succ_eq_append_getElem hdl]; simp [digs]
      have HSN := Lib.hid hsn
      obtain ⟨aA, cA, hform, hl1, hl2, _⟩ := hown.form
      have hlen : (digs ((bs.drop k).take i)).length = i := by simp [digs]; omega
      rw [hlen] at hform
      subst hform
      have hbI : ((k : Int) + (i : Int)).toNat = k + i := by omega
      have f1 : (0 : Int) ≤ (k : Int) + i := by omega
      have f2 : (k : Int) + i < bs.length := by omega
      have HFS := Lib.hid (fun hlt => Leb.lenOf_some (bs.drop k) m i hdl g1 hlt HI.out)
      have HI2 : 128 ≤ ((bs.drop k)[i]).toNat → Hid (∀ t (h : t < (bs.drop k).length), t < i + 1 → 128 ≤ ((bs.drop k)[t]).toNat) := fun hge => Lib.hid fun t h ht => by
        rcases Nat.lt_or_ge t i with h1 | h1
        · exact HI.out t h h1
        · have : t = i := by omega
          subst this; exact hge
      obtain ⟨x, hx⟩ : ∃ x, x = ((bs.drop k)[i]).toNat := ⟨_, rfl⟩
      rw [← hx] at hcj hb8 HSN HFS HI2
      have hcw : w.cell? ⟨b, off + (k + i), none⟩ = some (.int .u8 (x : Int)) := (hown.below.cell (p := ⟨b, off + (k + i), none⟩) hb).symm.trans hcj
      have HCW := Lib.hid hcw
      clear hx hsn hbj hcell hl1 hl2 hcw
      by_cases hsmall : x < 128
      · go_wp2_with (at_builtin; refine wpList_push rfl _ _ _ rfl _ 8 Tryd.underlying65 elem_int1 (by decide) _ _ _ _ _ _ 1 rfl hown rfl rfl (by omega) ?_; intro v' w' hown'; have hcj' := (hown'.below.cell (p := ⟨b, off + (k + i), none⟩) hb).trans HCW.out)
        go_ret3
        right
        refine ⟨i + 1, v', HFS.out hsmall, ret3 rfl (by show Value.int .i64 ((k : Int) + i + 1) = _; congr 1) rfl, ?_⟩
        rw [HSN.out]
        simpa using hown'
      · go_wp2_with (at_builtin; refine wpList_push rfl _ _ _ rfl _ 8 Tryd.underlying65 elem_int1 (by decide) _ _ _ _ _ _ 1 rfl hown rfl rfl (by omega) ?_; intro v' w' hown'; have hcj' := (hown'.below.cell (p := ⟨b, off + (k + i), none⟩) hb).trans HCW.out)
        go_roundw
        case rel => exact ⟨i + 1, by omega, by omega, by go_num, by rw [HSN.out]; simpa using hown', HI2 (by omega)⟩
        case measure => simp [intOf]; omega
    · have HFN := Lib.hid (Leb.lenOf_none (bs.drop k) m (fun t h ht => HI.out t h (by simp at h; omega)))
      obtain ⟨aA, cA, hform, hl1, hl2, _⟩ := hown.form
      have hlen : (digs ((bs.drop k).take i)).length = i := by simp [digs]; omega
      rw [hlen] at hform
      subst hform
      have hb := hown.below
      by_cases him : i < m
      · have hge : ¬ (k : Int) + i < bs.length := by omega
        go_wp2
        go_ret3
        exact .inl ⟨HFN.out, rfl, hb⟩
      · go_wp2
        go_ret3
        exact .inl ⟨HFN.out, rfl, hb⟩

end Go.Proofs.YthkdpcoacjgomaaDoor

/- The document's own answer for layer 1: a contract of grommetref01.Read. -/
namespace Go.Proofs.YthkdpcoacjgomaaDoor
open Go.RowKit

/-- the lowest n bits as cells. -/
def bitCells (D n : Nat) : List Value := (List.range n).map fun t => .int .i64 (Leb.bitAt D t : Nat)
@[simp] theorem bitCells_length (D n : Nat) : (bitCells D n).length = n := by simp [bitCells]
theorem bitCells_succ (D n : Nat) : bitCells D (n + 1) = bitCells D n ++ [.int .i64 (Leb.bitAt D n : Nat)] := by simp [bitCells, List.range_succ]
theorem bitCells_get (D n t : Nat) (h : t < n) : (bitCells D n)[t]? = some (.int .i64 (Leb.bitAt D t : Nat)) := by simp [bitCells, h]

theorem digs_get (l : List UInt8) (t : Nat) (h : t < l.length) : (digs l)[t]? = some (.int .i64 ((Leb.joinOf l / 2 ^ (7 * t) % 128 : Nat) : Int)) := by
  rw [Leb.joinOf_digit l t h]; simp [digs, h]

theorem bit_digit (D a q : Nat) (hq : q < 7) : Leb.bitAt D (a + q) = D / 2 ^ a % 128 / 2 ^ q % 2 := by
  unfold Leb.bitAt
  rw [Nat.pow_add, ← Nat.div_div_eq_div_mul]
  generalize D / 2 ^ a = E
  have e1 : (128 : Nat) = 2 ^ q * (2 * 2 ^ (6 - q)) := by
    rw [← Nat.pow_succ', ← Nat.pow_add, show q + (6 - q + 1) = 7 by omega]
  have e2 : E = E % 128 + 2 ^ q * (2 * (2 ^ (6 - q) * (E / 128))) := by
    have := (Nat.mod_add_div E 128).symm
    rw [← Nat.mul_assoc 2, ← Nat.mul_assoc (2 ^ q), ← e1]
    exact this
  conv => lhs; rw [e2, Nat.add_mul_div_left _ _ (Nat.pow_pos (by omega)), Nat.add_mul_mod_self_left]

def mo (D j bits : Nat) (sign : Bool) : Nat := if sign then Leb.moreOf D j bits else 0

set_option maxHeartbeats 4000000 in
set_option maxRecDepth 100000 in
theorem Read_any (A : Option Addr) (c : Nat) (bs : List UInt8) (k : Nat) (bits : Nat) (sign : Bool) (w : World) (hs : Sl w w.heap.size A (u8s bs)) (hc : bs.length ≤ c) (hm : c ≤ maxLen) (hk : k ≤ bs.length) (h0 : 1 ≤ bits) (h1 : bits ≤ 64) :
    Calls Tryd.prog 21 #[.slice A bs.length c, .int .i64 k, .int .i64 bits, .bool sign] w fun e w' => Below w.heap.size w w' ∧
      ((Leb.lenOf (bs.drop k) ((bits + 6) / 7) = none ∧ e = .returned (.tuple #[.int .u64 0, .int .i64 0, .bool false])) ∨
       ∃ j, Leb.lenOf (bs.drop k) ((bits + 6) / 7) = some j ∧
         ((¬ Leb.allBits (Leb.joinOf ((bs.drop k).take j)) (mo (Leb.joinOf ((bs.drop k).take j)) j bits sign) bits (7 * j) ∧ e = .returned (.tuple #[.int .u64 0, .int .i64 0, .bool false])) ∨
          (Leb.allBits (Leb.joinOf ((bs.drop k).take j)) (mo (Leb.joinOf ((bs.drop k).take j)) j bits sign) bits (7 * j) ∧
            e = .returned (.tuple #[.int .u64 (Leb.finalV (Leb.joinOf ((bs.drop k).take j)) (min (7 * j) bits) (mo (Leb.joinOf ((bs.drop k).take j)) j bits sign) : Nat), .int .i64 ((k : Int) + j), .bool true])))) := by
  have hm' := hm
  unfold maxLen at hm'
  obtain ⟨m, hmm⟩ : ∃ m, m = (bits + 6) / 7 := ⟨_, rfl⟩
  have hmI : ((bits : Int) + 6) / 7 = m := by omega
  have hm10 : m ≤ 10 := by omega
  rw [← hmm]
  have HMM := Lib.hid hmm
  have hdig := digits_any A c bs k m w hs hc hm hk hm10
  have HD := Lib.hid hdig
  clear hmm hdig
  go_enter Tryd.func21, Tryd.ntmps21
  go_wp2_with fail
  clear hmI
  with_reducible refine HD.out.mono ?_
  rintro e w1 hres
  rcases hres with ⟨hl, rfl, hb1⟩ | ⟨j, s, hl, rfl, hown1⟩
  · have HLN := Lib.hid hl
    clear hl
    go_wp2
    go_ret3
    exact ⟨hb1, .inl ⟨HLN.out, rfl⟩⟩
  · obtain ⟨he, htl⟩ := Leb.enc_of_len _ _ _ hl
    obtain ⟨j1, j2, j3, j4⟩ := Leb.lenOf_of_some _ _ _ hl
    have hlt := Leb.joinOf_lt ((bs.drop k).take j)
    rw [htl] at hlt
    obtain ⟨g, cd, rfl, hg1, hg2, hcd1, hcd2, hcell1, _⟩ := hown1.at_ (by simp only [digs, List.length_map, htl]; omega)
    have hdl : (digs ((bs.drop k).take j)).length = j := by simp [digs]; simpa using htl
    rw [hdl] at hcd1 hcell1 hown1 ⊢
    have hcD : ∀ t, t < j → w1.cell? ⟨g, t, none⟩ = some (.int .i64 ((Leb.joinOf ((bs.drop k).take j) / 2 ^ (7 * t) % 128 : Nat) : Int)) := fun t ht => by
      rw [hcell1 t ht, digs_get _ t (by rw [htl]; exact ht)]
    have HL := Lib.hid hl
    have hb1 := hown1.below
    have hw1 := hown1.le
    obtain ⟨D, hD⟩ : ∃ D, D = Leb.joinOf ((bs.drop k).take j) := ⟨_, rfl⟩
    rw [← hD] at hcD hlt
    have HDD := Lib.hid hD
    have HC := Lib.hid hcD
    have HLT := Lib.hid hlt
    clear hl he htl j4 hcell1 hdl hD hcD hown1 hlt
    go_wp2
    go_loopw [15, 16] (fun s i wr => ∃ t : Nat, t ≤ j ∧ i = .int .i64 t ∧ Own w1.heap.size w1 wr 3 s (bitCells D (7 * t))) (fun _ i _ => j - (intOf i).toNat)
    case atStart => exact ⟨0, Nat.zero_le _, rfl, Own.nil_ _ _ _ (Below.refl _ _) (Nat.le_refl _)⟩
    case round =>
      obtain ⟨t, ht, rfl, hown⟩ := hrel
      by_cases htj : t < j
      · have hcell := (hown.below.cell (p := ⟨g, t, none⟩) hg2).trans (HC.out t htj)
        obtain ⟨X, hX⟩ : ∃ X, X = D / 2 ^ (7 * t) % 128 := ⟨_, rfl⟩
        rw [← hX] at hcell
        have HX := Lib.hid hX
        clear hX
        go_wp2
        go_loopw [15, 17, 18] (fun s x i wr => ∃ q : Nat, q ≤ 7 ∧ i = .int .i64 q ∧ x = .int .i64 ((X / 2 ^ q : Nat) : Int) ∧ Own w1.heap.size w1 wr 3 s (bitCells D (7 * t + q))) (fun _ _ i _ => 7 - (intOf i).toNat)
        case atStart => exact ⟨0, Nat.zero_le _, rfl, by simp, hown⟩
        case round =>
          obtain ⟨q, hq, rfl, rfl, hown2⟩ := hrel
          by_cases hq7 : q < 7
          · obtain ⟨Y, hY⟩ : ∃ Y, Y = X / 2 ^ q := ⟨_, rfl⟩
            have hY2 : X / 2 ^ (q + 1) = Y / 2 := by rw [hY, Nat.pow_succ, Nat.div_div_eq_div_mul]
            have hbit : Leb.bitAt D (7 * t + q) = Y % 2 := by rw [bit_digit D (7 * t) q hq7, hY, HX.out]
            have hYb : Y < 128 := by
              have h1 : X < 128 := by rw [HX.out]; exact Nat.mod_lt _ (by omega)
              have h2 : X / 2 ^ q ≤ X := Nat.div_le_self _ _
              omega
            rw [← hY]
            have HY2 := Lib.hid hY2
            have HB := Lib.hid hbit
            clear hY hY2 hbit
            go_wp2_with (at_builtin; refine wpList_push rfl _ _ _ rfl _ 8 Tryd.underlying65 elem_int1 (by decide) _ _ _ _ _ _ 1 rfl hown2 rfl rfl (by simp; omega) ?_; intro v' w' hown')
            go_roundw
            case rel => exact ⟨q + 1, by omega, by go_num, by rw [HY2.out]; simp, by rw [← Nat.add_assoc, bitCells_succ, HB.out]; simpa using hown'⟩
            case measure => simp [intOf]; omega
          · have hq77 : q = 7 := by omega
            subst hq77
            go_wp2
            go_roundw
            case rel => exact ⟨t + 1, by omega, by go_num, by rw [show 7 * (t + 1) = 7 * t + 7 by omega]; exact hown2⟩
            case measure => simp [intOf]; omega
      · have htt : t = j := by omega
        subst htt
        obtain ⟨g2, c2, rfl, hg21, hg22, hc21, hc22, hcell2, _⟩ := hown.at_ (by simp; omega)
        rw [bitCells_length] at hc21 hcell2 ⊢
        have hcB : ∀ i, i < 7 * t → wr.cell? ⟨g2, i, none⟩ = some (.int .i64 (Leb.bitAt D i : Nat)) := fun i hi => by
          rw [hcell2 i hi, bitCells_get D _ i hi]
        have HCB := Lib.hid hcB
        have hbw := hb1.trans (hown.below.mono hw1)
        clear hcB hcell2 hown
        obtain ⟨M, hM⟩ : ∃ M, M = mo D t bits sign := ⟨_, rfl⟩
        have HM := Lib.hid hM
        have hM1 : M ≤ 1 := by
          rw [hM]; unfold mo Leb.moreOf
          have := Leb.bitAt_le D (bits - 1)
          have := Leb.bitAt_le D (7 * t - 1)
          split <;> (try split) <;> omega
        clear hM
        have t0 : ¬ t < t := by omega
        go_upto_if 58 with (fail)
        go_cut [19] (fun s19 wx => s19 = .int .i64 (M : Int) ∧ wx = wr)
        case first =>
          cases sign with
          | false =>
            go_wp2
            go_meet
            case rel => exact ⟨by rw [HM.out]; rfl, rfl⟩
          | true =>
            have f1 : (0 : Int) ≤ 7 * (t : Int) - 1 := by omega
            have f2 : (7 * (t : Int) - 1).toNat = 7 * t - 1 := by omega
            have f3 : ((bits : Int) - 1).toNat = bits - 1 := by omega
            have cA := HCB.out (7 * t - 1) (by omega)
            by_cases hb7 : bits < 7 * t
            · have cB := HCB.out (bits - 1) (by omega)
              have eM : M = Leb.bitAt D (bits - 1) := by rw [HM.out, mo, if_pos rfl, Leb.moreOf, if_pos hb7]
              have EM := Lib.hid eM
              clear eM
              go_wp2
              go_meet
              case rel => exact ⟨by rw [EM.out], rfl⟩
            · have eM : M = Leb.bitAt D (7 * t - 1) := by rw [HM.out, mo, if_pos rfl, Leb.moreOf, if_neg hb7]
              have EM := Lib.hid eM
              clear eM
              go_wp2
              go_meet
              case rel => exact ⟨by rw [EM.out], rfl⟩
        case rest =>
          obtain ⟨rfl, rfl⟩ := hcut
          go_wp2
          go_loop [20] (fun s => ∃ i : Nat, bits ≤ i ∧ i ≤ 70 ∧ s = .int .i64 i ∧ Hid (∀ r, bits ≤ r → r < i → r < 7 * t → Leb.bitAt D r = M)) (fun s => 70 - (intOf s).toNat)
          case atStart => exact ⟨bits, Nat.le_refl _, by omega, rfl, Lib.hid (fun r h1 h2 => by omega)⟩
          case round =>
            obtain ⟨i, hi1, hi2, rfl, HI⟩ := hrel
            by_cases hit : i < 7 * t
            · have hci := HCB.out i hit
              by_cases hbm : Leb.bitAt D i = M
              · have HI2 := Lib.hid (show ∀ r, bits ≤ r → r < i + 1 → r < 7 * t → Leb.bitAt D r = M from fun r a1 a2 a3 => by
                  rcases Nat.lt_or_ge r i with h | h
                  · exact HI.out r a1 h a3
                  · have : r = i := by omega
                    subst this; exact hbm)
                rw [hbm] at hci
                clear hbm
                have tb : ((M : Int) != (M : Int)) = false := by simp
                go_wp2
                go_round
                case rel => exact ⟨i + 1, by omega, by omega, by go_num, HI2⟩
                case measure => simp [intOf]; omega
              · have hno : ¬ Leb.allBits D (mo D t bits sign) bits (7 * t) := fun h => hbm (by rw [HM.out]; exact h i hi1 hit)
                have HNO := Lib.hid hno
                have tb : ((Leb.bitAt D i : Nat) : Int) != (M : Int) := by rw [bne_iff_ne]; omega
                clear hbm hno
                go_wp2
                go_ret3
                refine ⟨hbw, .inr ⟨t, HL.out, .inl ⟨?_, rfl⟩⟩⟩
                rw [← HDD.out]
                exact HNO.out
            · have hall : Leb.allBits D (mo D t bits sign) bits (7 * t) := fun r a1 a2 => by rw [← HM.out]; exact HI.out r a1 (by omega) a2
              have HALL := Lib.hid hall
              clear hall
              have hVlt := Leb.finalV_lt D (min (7 * t) bits) M (by omega) hM1
              have hVbit := fun r (hr : r < 64) => Leb.finalV_bit D (min (7 * t) bits) M r (by omega) hM1 hr
              obtain ⟨V, hV⟩ : ∃ V, V = Leb.finalV D (min (7 * t) bits) M := ⟨_, rfl⟩
              rw [← hV] at hVlt hVbit
              have HV := Lib.hid hV
              have HVB := Lib.hid hVbit
              clear hV hVbit
              go_wp2
              go_loop [21, 22] (fun v s => ∃ r : Nat, r ≤ 64 ∧ s = .int .i64 ((r : Int) - 1) ∧ v = .int .u64 ((V / 2 ^ r : Nat) : Int)) (fun _ s => (intOf s + 1).toNat)
              case atStart => exact ⟨64, by omega, rfl, by rw [Nat.div_eq_of_lt (by omega)]; rfl⟩
              case round =>
                obtain ⟨r, hr, rfl, rfl⟩ := hrel
                rcases Nat.eq_zero_or_pos r with hr0 | hr0
                · subst hr0
                  go_wp2
                  go_ret3
                  refine ⟨hbw, .inr ⟨t, HL.out, .inr ⟨?_, ?_⟩⟩⟩
                  · rw [← HDD.out]; exact HALL.out
                  · rw [← HDD.out, ← HM.out, ← HV.out]
                    exact ret3 (by show Value.int .u64 _ = _; simp) rfl rfl
                · obtain ⟨q, rfl⟩ : ∃ q, r = q + 1 := ⟨r - 1, by omega⟩
                  have eq1 : (((q + 1 : Nat) : Int) - 1) = (q : Int) := by omega
                  rw [eq1]
                  have hstep := HVB.out q (by omega)
                  obtain ⟨U, hU⟩ : ∃ U, U = V / 2 ^ (q + 1) := ⟨_, rfl⟩
                  obtain ⟨U2, hU2⟩ : ∃ U2, U2 = V / 2 ^ q := ⟨_, rfl⟩
                  have hU12 : U = U2 / 2 := by rw [hU, hU2, Nat.pow_succ, Nat.div_div_eq_div_mul]
                  have hU2lt : U2 ≤ V := by rw [hU2]; exact Nat.div_le_self _ _
                  rw [← hU2] at hstep
                  rw [← hU]
                  have HU2 := Lib.hid hU2
                  clear hU hU2 eq1
                  have hUb : U * 2 + 1 < 18446744073709551616 := by omega
                  by_cases hq1 : q < 7 * t
                  · have hci := HCB.out q hq1
                    by_cases hq2 : q < bits
                    · rw [if_pos (by omega)] at hstep
                      have hb := Leb.bitAt_le D q
                      obtain ⟨b, hbq⟩ : ∃ b, b = Leb.bitAt D q := ⟨_, rfl⟩
                      rw [← hbq] at hstep hci hb
                      clear hbq
                      have hfin : ((U : Int) * 2 + b) = (U2 : Int) := by omega
                      have HFIN := Lib.hid hfin
                      clear hfin hstep hU12
                      go_wp2
                      go_round
                      case rel => exact ⟨q, by omega, by go_num, by rw [← HU2.out, HFIN.out]⟩
                      case measure => simp [intOf]
                    · rw [if_neg (by omega)] at hstep
                      have hfin : ((U : Int) * 2 + M) = (U2 : Int) := by omega
                      have HFIN := Lib.hid hfin
                      have tq : decide (q < bits) = false := by simp; omega
                      clear hfin hstep hU12
                      go_wp2
                      go_round
                      case rel => exact ⟨q, by omega, by go_num, by rw [← HU2.out, HFIN.out]⟩
                      case measure => simp [intOf]
                  · rw [if_neg (by omega)] at hstep
                    have hfin : ((U : Int) * 2 + M) = (U2 : Int) := by omega
                    have HFIN := Lib.hid hfin
                    have tq : decide (q < 7 * t) = false := by simp; omega
                    clear hfin hstep hU12
                    go_wp2
                    go_round
                    case rel => exact ⟨q, by omega, by go_num, by rw [← HU2.out, HFIN.out]⟩
                    case measure => simp [intOf]

end Go.Proofs.YthkdpcoacjgomaaDoor

/- The walk of LebReads: it returns true, whatever the input; nothing that was there changes. -/
namespace Go.Proofs.YthkdpcoacjgomaaDoor
open Go.RowKit

def rV : Option (Nat × Nat) → Value
  | some (x, n) => .tuple #[.int .u64 (x : Int), .int .i64 (n : Int), .bool true]
  | none => .tuple #[.int .u64 0, .int .i64 0, .bool false]

/-- the document's answer without a sign is leb.U's. -/
theorem ReadU (A : Option Addr) (c : Nat) (bs : List UInt8) (at_ bits : Int) (w : World) (B : Nat) (hs : Sl w B A (u8s bs)) (hB : B ≤ w.heap.size) (hc : bs.length ≤ c) (hm : c ≤ maxLen) (h2 : 0 ≤ at_) (h3 : at_ ≤ bs.length) (h0 : 1 ≤ bits) (h1 : bits ≤ 64) :
    Calls Tryd.prog 21 #[.slice A bs.length c, .int .i64 at_, .int .i64 bits, .bool false] w fun e w' => e = .returned (rV (Leb.uOf bs at_.toNat bits.toNat)) ∧ Below w.heap.size w w' := by
  obtain ⟨k, rfl⟩ := Int.eq_ofNat_of_zero_le h2
  obtain ⟨b, rfl⟩ := Int.eq_ofNat_of_zero_le (show 0 ≤ bits by omega)
  refine (Read_any A c bs k b false w (hs.more hB) hc hm (by omega) (by omega) (by omega)).mono fun e w' ⟨hb, h⟩ => ⟨?_, hb⟩
  rw [Int.toNat_natCast, Int.toNat_natCast]
  rcases h with ⟨hl, rfl⟩ | ⟨j, hl, ⟨hn, rfl⟩ | ⟨ha, rfl⟩⟩
  · rw [Leb.uOf, hl]; rfl
  · rw [(Leb.uOf_ref bs k b j (by omega) (by omega) hl).2 (by simpa [mo] using hn)]; rfl
  · rw [(Leb.uOf_ref bs k b j (by omega) (by omega) hl).1 (by simpa [mo] using ha)]
    simp [rV, mo]
/-- the document's answer with a sign is leb.S's. -/
theorem ReadS (A : Option Addr) (c : Nat) (bs : List UInt8) (at_ bits : Int) (w : World) (B : Nat) (hs : Sl w B A (u8s bs)) (hB : B ≤ w.heap.size) (hc : bs.length ≤ c) (hm : c ≤ maxLen) (h2 : 0 ≤ at_) (h3 : at_ ≤ bs.length) (h0 : 1 ≤ bits) (h1 : bits ≤ 64) :
    Calls Tryd.prog 21 #[.slice A bs.length c, .int .i64 at_, .int .i64 bits, .bool true] w fun e w' => e = .returned (rV ((Leb.sOf bs at_.toNat bits.toNat).map fun p => ((p.1 % 18446744073709551616).toNat, p.2))) ∧ Below w.heap.size w w' := by
  obtain ⟨k, rfl⟩ := Int.eq_ofNat_of_zero_le h2
  obtain ⟨b, rfl⟩ := Int.eq_ofNat_of_zero_le (show 0 ≤ bits by omega)
  refine (Read_any A c bs k b true w (hs.more hB) hc hm (by omega) (by omega) (by omega)).mono fun e w' ⟨hb, h⟩ => ⟨?_, hb⟩
  rw [Int.toNat_natCast, Int.toNat_natCast]
  rcases h with ⟨hl, rfl⟩ | ⟨j, hl, ⟨hn, rfl⟩ | ⟨ha, rfl⟩⟩
  · rw [Leb.sOf, hl]; rfl
  · rw [(Leb.sOf_ref bs k b j (by omega) (by omega) hl).2 (by simpa [mo] using hn)]; rfl
  · obtain ⟨s, hs1, hs2⟩ := (Leb.sOf_ref bs k b j (by omega) (by omega) hl).1 (by simpa [mo] using ha)
    rw [hs1]
    simp [rV, mo]
    omega


end Go.Proofs.YthkdpcoacjgomaaDoor

/- The walk of LebBack: it returns true, whatever the input; nothing that was there changes. -/
namespace Go.Proofs.YthkdpcoacjgomaaDoor
open Go.RowKit

theorem Leb.sOf_range (bs : List UInt8) (k bits n : Nat) (s : Int) (h1 : bits ≤ 64) (h : Leb.sOf bs k bits = some (s, n)) : -9223372036854775808 ≤ s ∧ s < 9223372036854775808 := by
  unfold Leb.sOf at h
  split at h
  · cases h
  · rename_i j hj
    obtain ⟨he, hl⟩ := Leb.enc_of_len _ _ _ hj
    obtain ⟨j1, j2, j3, j4⟩ := Leb.lenOf_of_some _ _ _ hj
    split at h
    · cases h
    · rename_i hev
      injection h with h
      injection h with e1 e2
      subst e1 e2
      have hb := Leb.sval_bounds he
      have hlast := Leb.joinOf_last (bs.drop k) j j1 (by simp only [List.length_drop] at j3 ⊢; omega)
      simp only [List.length_drop] at j3
      have e3 : (bs.drop k)[j - 1]'(by simp; omega) = bs[k + j - 1]'(by omega) := by simp [show k + (j - 1) = k + j - 1 by omega]
      have hget : bs[k + j - 1]?.getD 0 = bs[k + j - 1]'(by omega) := by simp [show k + j - 1 < bs.length by omega]
      unfold Leb.sval at hb
      rw [hl] at hb
      have e : ((bs.drop k).take j)[j - 1]? = bs[k + j - 1]? := by
        rw [List.getElem?_take, if_pos (by omega), List.getElem?_drop]; congr 1; omega
      rw [e] at hb
      rw [e3] at hlast j4
      rw [hget] at hb hev ⊢
      obtain ⟨x, hx⟩ : ∃ x, x = (bs[k + j - 1]'(by omega)).toNat := ⟨_, rfl⟩
      rw [← hx] at hb hev hlast j4 ⊢
      rcases Nat.lt_or_ge j 10 with h10 | h10
      · have hp : (2 : Int) ^ (7 * j - 1) ≤ 2 ^ 62 := by
          have : (2 : Nat) ^ (7 * j - 1) ≤ 2 ^ 62 := Nat.pow_le_pow_right (by omega) (by omega)
          exact_mod_cast this
        have h62 : (2 : Int) ^ 62 = 4611686018427387904 := by decide
        omega
      · have hj10 : j = 10 := by omega
        have hm : (bits + 6) / 7 = 10 := by omega
        have hbits : bits = 64 := by omega
        subst hj10 hbits
        have hE : Leb.evenB x 1 = true := by
          cases hc : Leb.evenB x 1
          · exact absurd ⟨rfl, hc⟩ hev
          · rfl
        simp only [Leb.evenB, Nat.sub_self, Nat.pow_zero, Nat.div_one, Bool.or_eq_true, beq_iff_eq] at hE
        have h3 : (2 : Int) ^ (7 * 10) = 1180591620717411303424 := by decide
        have h4 : (2 : Nat) ^ (7 * (10 - 1)) = 9223372036854775808 := by decide
        rw [h3]
        rw [h4] at hlast
        split <;> omega

/-- leb.U at whatever place: an error, or a number whose bytes are no more than those read. -/
theorem U_res {A : Option Addr} {n c : Nat} {bs : List UInt8} {w : World} {B : Nat} (at_ bits : Int) (hs : Sl w B A (u8s bs)) (hB : B ≤ w.heap.size) (hn : bs.length = n) (hc : n ≤ c) (hm : c ≤ maxLen) :
    Calls Tryd.prog 28 #[.slice A n c, .int .i64 at_, .int .i64 bits] w fun e w' => ((∃ k : Int, e = .returned (.tuple #[.int .u64 0, .int .i64 0, .iface 41 (.int .i64 k)])) ∨
      ∃ x j : Nat, e = .returned (.tuple #[.int .u64 x, .int .i64 j, .nilIface]) ∧ x < 18446744073709551616 ∧ 0 ≤ at_ ∧ j ≤ n ∧ ((Leb.putU x).length : Int) ≤ j - at_) ∧ ∃ nq, w' = w.drewN nq := by
  by_cases h : bits < 1 ∨ 64 < bits ∨ at_ < 0 ∨ n < at_
  · exact (U_bad A n c at_ bits w h).mono fun e w' ⟨h1, h2⟩ => ⟨.inl ⟨_, h1⟩, 0, h2.symm⟩
  · refine (U_int _ hs hB hn hc hm (by omega) (by omega) (by omega) (by omega) rfl).mono fun e w' ⟨h1, h2⟩ => ⟨?_, h2⟩
    cases hr : Leb.uOf bs at_.toNat bits.toNat with
    | none => rw [hr] at h1; exact .inl ⟨2, h1⟩
    | some r =>
      obtain ⟨x, j⟩ := r
      rw [hr] at h1
      have hsh := Leb.uOf_short _ _ _ _ _ (by omega) hr
      have hle := Leb.uOf_le _ _ _ _ _ hr
      exact .inr ⟨x, j, h1, Leb.uOf_lt _ _ _ _ _ hr, by omega, by omega, by omega⟩

theorem wrap64_back (v : Nat) (h : v < 18446744073709551616) : -9223372036854775808 ≤ wrap64 v ∧ wrap64 v < 9223372036854775808 ∧ wrap64 v % 18446744073709551616 = v := by
  unfold wrap64; omega


end Go.Proofs.YthkdpcoacjgomaaDoor

/- The document's own answer for layer 1: a contract of grommetref01.Put. -/
namespace Go.Proofs.YthkdpcoacjgomaaDoor
open Go.RowKit

/-- one round of the document's digits: the rest of the number. -/
theorem rest_step (z : Int) (i : Nat) (x : Int) (hz1 : -9223372036854775808 ≤ z) (hz2 : z < 18446744073709551616) (hx : x = z / 128 ^ i % 18446744073709551616) :
    (0 ≤ z → x / 128 = z / 128 ^ (i + 1) % 18446744073709551616) ∧
    (z < 0 → x / 128 + 18302628885633695744 = z / 128 ^ (i + 1) % 18446744073709551616) ∧ (x % 128 = z / 128 ^ i % 128) ∧ (z < 0 → x / 128 + 18302628885633695744 < 18446744073709551616) := by
  have hp : (0 : Int) < 128 ^ i := Int.pow_pos (by decide)
  have e1 : z / 128 ^ (i + 1) = z / 128 ^ i / 128 := by rw [Int.pow_succ, ← Int.ediv_ediv_of_nonneg (by omega)]
  rw [e1]
  have h1 : 0 ≤ z → 0 ≤ z / 128 ^ i := fun h => Int.ediv_nonneg h (by omega)
  have h2 : 0 ≤ z → z / 128 ^ i ≤ z := fun h => Int.ediv_le_self _ h
  have h3 : z < 0 → z / 128 ^ i < 0 := fun h => Int.ediv_neg_of_neg_of_pos h hp
  have h4 : z < 0 → z ≤ z / 128 ^ i := fun h => by
    rw [Int.le_ediv_iff_mul_le hp]
    have : (1 : Int) ≤ 128 ^ i := by omega
    have := Int.mul_le_mul_of_nonpos_left (show z ≤ 0 by omega) this
    omega
  generalize z / 128 ^ i = y at *
  refine ⟨fun h => ?_, fun h => ?_, ?_, fun h => ?_⟩
  all_goals
    by_cases hn : z < 0
    · have := h3 hn; have := h4 hn; omega
    · have := h1 (by omega); have := h2 (by omega); omega

theorem candB_snoc (z : Int) (n i : Nat) : (List.range (i + 1)).map (Leb.candB z n) = (List.range i).map (Leb.candB z n) ++ [Leb.candB z n i] := by
  rw [List.range_succ, List.map_append]; rfl

/-- what holds at the head of each round of the inner loop: t digits are laid. -/
def PutRel (z : Int) (n : Nat) (w0 : World) (b x i : Value) (w : World) : Prop := ∃ (t : Nat) (X : Int), t ≤ n + 1 ∧ i = .int .i64 t ∧ x = .int .u64 X ∧ 0 ≤ X ∧ X < 18446744073709551616 ∧ Hid (X = z / 128 ^ t % 18446744073709551616) ∧
      Own w0.heap.size w0 w 5 b (u8s ((List.range t).map (Leb.candB z n)))

set_option maxHeartbeats 4000000 in
set_option maxRecDepth 100000 in
theorem Put_any (v : Nat) (sign : Bool) (w : World) (hv : v < 18446744073709551616) :
    Calls Tryd.prog 25 #[.int .u64 v, .bool sign] w fun e w' => ∃ A c, e = .returned (.slice A (if sign then Leb.putS (wrap64 v) else Leb.putU v).length c) ∧
      Sl w' w'.heap.size A (u8s (if sign then Leb.putS (wrap64 v) else Leb.putU v)) ∧ Below w.heap.size w w' ∧ (∀ q, A = some q → w.heap.size ≤ q.block) := by
  -- the number, with or without its sign, and how many digits it has
  obtain ⟨z, L, hL, hz1, hz2, hzv, hput, hread, hx0⟩ : ∃ (z : Int) (L : Nat), L ≤ 9 ∧ -9223372036854775808 ≤ z ∧ z < 18446744073709551616 ∧ (z < 0 ↔ (sign = true ∧ 9223372036854775808 ≤ v)) ∧
      ((if sign then Leb.putS (wrap64 v) else Leb.putU v) = Leb.padZ z L) ∧ (∀ n, n ≤ L → ∃ r : Option (Nat × Nat),
        (if sign then (Leb.sOf (Leb.padZ z n) 0 64).map (fun p => ((p.1 % 18446744073709551616).toNat, p.2)) else Leb.uOf (Leb.padZ z n) 0 64) = r ∧
        (n = L → ∃ k, r = some (v, k)) ∧ (n ≠ L → ∃ y k, r = some (y, k) ∧ y ≠ v)) ∧ (v : Int) = z / 128 ^ 0 % 18446744073709551616 := by
    cases sign with
    | false =>
      obtain ⟨L, p1, p2, p3⟩ := Leb.putU_pad v
      have hL : L ≤ 9 := by
        rcases Nat.lt_or_ge 9 L with h | h
        · have := p3 9 h; omega
        · exact h
      refine ⟨v, L, hL, by omega, by omega, by simp, by simpa using p1, fun n hn => ⟨_, rfl, fun e => ?_, fun e => ?_⟩, by simp; omega⟩
      · subst e
        refine ⟨n + 1, ?_⟩
        simp only [Bool.false_eq_true, if_false]
        rw [Leb.padU_read v n hv (by omega), Nat.mod_eq_of_lt p2]
      · refine ⟨v % 128 ^ (n + 1), n + 1, ?_, ?_⟩
        · simp only [Bool.false_eq_true, if_false]
          rw [Leb.padU_read v n hv (by omega)]
        · have h1 := p3 n (by omega)
          have h2 := Nat.mod_lt v (show 0 < 128 ^ (n + 1) from Nat.pow_pos (by omega))
          omega
    | true =>
      obtain ⟨z1, z2, z3⟩ := wrap64_back v hv
      have hzv : wrap64 v < 0 ↔ 9223372036854775808 ≤ v := by unfold wrap64; omega
      generalize wrap64 v = z at *
      obtain ⟨L, p1, p2, p3, p4⟩ := Leb.putS_pad z.natAbs z (Nat.le_refl _)
      have hL : L ≤ 9 := by
        rcases Nat.lt_or_ge 9 L with h | h
        · have := p4 9 h
          have h9 : (128 : Int) ^ 9 = 9223372036854775808 := by decide
          omega
        · exact h
      refine ⟨z, L, hL, by omega, by omega, by simpa using hzv, by simpa using p1, fun n hn => ⟨_, rfl, fun e => ?_, fun e => ?_⟩, by simp; omega⟩
      · subst e
        obtain ⟨s, q1, q2, q3, q4, q5⟩ := Leb.padS_read z n z1 z2 (by omega)
        refine ⟨n + 1, ?_⟩
        simp only [if_true]
        rw [q1, q5 ⟨p2, p3⟩, Option.map_some, z3]
        simp
      · obtain ⟨s, q1, q2, q3, q4, q5⟩ := Leb.padS_read z n z1 z2 (by omega)
        refine ⟨(s % 18446744073709551616).toNat, n + 1, ?_, ?_⟩
        · simp only [if_true]
          rw [q1, Option.map_some]
        · have := p4 n (by omega)
          omega
  rw [hput]
  have HPUT := Lib.hid hput
  have HREAD := Lib.hid hread
  have HSTEP := Lib.hid (fun i x => rest_step z i x hz1 hz2)
  have HX0 := Lib.hid hx0
  have HZV := Lib.hid hzv
  clear hput hread hx0 hzv
  obtain ⟨a, hA⟩ : ∃ a : Int, a = v := ⟨_, rfl⟩
  have ha0 : 0 ≤ a := by omega
  have ha1 : a < 18446744073709551616 := by omega
  rw [← hA] at HX0 ⊢
  have HA := Lib.hid hA
  have HV := Lib.hid hv
  clear hA hv
  go_enter Tryd.func25, Tryd.ntmps25
  go_wp2
  go_loopw [5] (fun s wr => ∃ n : Nat, n ≤ L ∧ s = .int .i64 ((n : Int) + 1) ∧ Below w.heap.size w wr) (fun s _ => 11 - (intOf s).toNat)
  case atStart => exact ⟨0, Nat.zero_le _, rfl, Below.refl _ _⟩
  case round =>
    obtain ⟨n, hn, rfl, hbw⟩ := hrel
    have t10 : decide ((n : Int) + 1 ≤ 10) = true := by simp; omega
    go_wp2
    go_loopw [6, 7, 8] (fun b x i wr2 => PutRel z n wr b x i wr2) (fun _ _ i _ => n + 1 - (intOf i).toNat)
    case atStart => exact ⟨0, a, Nat.zero_le _, rfl, rfl, ha0, ha1, HX0, Own.nil_ _ _ _ (Below.refl _ _) (Nat.le_refl _)⟩
    case round =>
      obtain ⟨t, X, ht, rfl, rfl, hX0, hX1, HX, hown⟩ := hrel
      by_cases htn : t < n + 1
      · obtain ⟨s1, s2, s3, s4⟩ := HSTEP.out t X HX.out
        have hcb : ∀ d : Int, (d = X % 128 + if t < n then 128 else 0) → Hid (u8s ((List.range t).map (Leb.candB z n)) ++ [Value.int .u8 d] = u8s ((List.range (t + 1)).map (Leb.candB z n))) := fun d hd => Lib.hid <| by
          rw [candB_snoc, Leb.candB, u8s_snoc _ _ (by split <;> omega)]
          congr 3
          rw [hd, s3]
          split <;> simp <;> omega
        have hlen : (u8s ((List.range t).map (Leb.candB z n))).length < 1000000000000 := by simp; omega
        have S1 := Lib.hid s1
        have S2 := Lib.hid s2
        have S4 := Lib.hid s4
        have HCB := Lib.hid hcb
        clear s1 s2 s3 s4 hcb
        have hcase : (sign = true ∧ z < 0 ∧ (9223372036854775808 : Int) ≤ a) ∨ (sign = true ∧ 0 ≤ z ∧ a < 9223372036854775808) ∨ (sign = false ∧ 0 ≤ z) := by
          have := HZV.out
          have := HA.out
          cases sign
          · simp at this; simp; omega
          · simp at this; simp; omega
        have fin : ∀ (w0 : World) (d X' : Int) (v' : Value) (w' : World), (d = X % 128 + if t < n then 128 else 0) → X' = z / 128 ^ (t + 1) % 18446744073709551616 → Own w0.heap.size w0 w' 5 v' (u8s ((List.range t).map (Leb.candB z n)) ++ [Value.int .u8 d]) →
            PutRel z n w0 v' (.int .u64 X') (.int .i64 ((t : Int) + 1)) w' := fun w0 d X' v' w' h1 h2 h3 => by
          rw [(HCB.out d h1).out] at h3
          exact ⟨t + 1, X', by omega, by simp, rfl, by omega, by omega, Lib.hid h2, h3⟩
        have FIN := Lib.hid fin
        clear fin
        rcases hcase with ⟨rfl, hzn, hvb⟩ | ⟨rfl, hzn, hvb⟩ | ⟨rfl, hzn⟩
        · have h5 : X / 128 + 18302628885633695744 < 18446744073709551616 := S4.out hzn
          by_cases htn2 : t < n
          · go_wp2_with (at_builtin; refine wpList_push rfl _ _ _ rfl _ 1 Tryd.underlying22 elem_u8 (by decide) _ _ _ _ _ _ 1 rfl hown rfl rfl hlen ?_; intro v' w' hown')
            go_roundw
            case rel => first | exact FIN.out _ (X % 128 + 128) _ _ _ (by rw [if_pos htn2]) (S2.out hzn) hown' | exact ⟨_, _, _, FIN.out _ (X % 128 + 128) _ _ _ (by rw [if_pos htn2]) (S2.out hzn) hown', rfl, rfl, rfl⟩ | ((repeat apply Exists.intro); exact ⟨FIN.out _ (X % 128 + 128) _ _ _ (by rw [if_pos htn2]) (S2.out hzn) hown', rfl⟩)
            case measure => simp [intOf]; omega
          · go_wp2_with (at_builtin; refine wpList_push rfl _ _ _ rfl _ 1 Tryd.underlying22 elem_u8 (by decide) _ _ _ _ _ _ 1 rfl hown rfl rfl hlen ?_; intro v' w' hown')
            go_roundw
            case rel => first | exact FIN.out _ (X % 128) _ _ _ (by rw [if_neg htn2]; simp) (S2.out hzn) hown' | exact ⟨_, _, _, FIN.out _ (X % 128) _ _ _ (by rw [if_neg htn2]; simp) (S2.out hzn) hown', rfl, rfl, rfl⟩ | ((repeat apply Exists.intro); exact ⟨FIN.out _ (X % 128) _ _ _ (by rw [if_neg htn2]; simp) (S2.out hzn) hown', rfl⟩)
            case measure => simp [intOf]; omega
        · by_cases htn2 : t < n
          · go_wp2_with (at_builtin; refine wpList_push rfl _ _ _ rfl _ 1 Tryd.underlying22 elem_u8 (by decide) _ _ _ _ _ _ 1 rfl hown rfl rfl hlen ?_; intro v' w' hown')
            go_roundw
            case rel => first | exact FIN.out _ (X % 128 + 128) _ _ _ (by rw [if_pos htn2]) (S1.out hzn) hown' | exact ⟨_, _, _, FIN.out _ (X % 128 + 128) _ _ _ (by rw [if_pos htn2]) (S1.out hzn) hown', rfl, rfl, rfl⟩ | ((repeat apply Exists.intro); exact ⟨FIN.out _ (X % 128 + 128) _ _ _ (by rw [if_pos htn2]) (S1.out hzn) hown', rfl⟩)
            case measure => simp [intOf]; omega
          · go_wp2_with (at_builtin; refine wpList_push rfl _ _ _ rfl _ 1 Tryd.underlying22 elem_u8 (by decide) _ _ _ _ _ _ 1 rfl hown rfl rfl hlen ?_; intro v' w' hown')
            go_roundw
            case rel => first | exact FIN.out _ (X % 128) _ _ _ (by rw [if_neg htn2]; simp) (S1.out hzn) hown' | exact ⟨_, _, _, FIN.out _ (X % 128) _ _ _ (by rw [if_neg htn2]; simp) (S1.out hzn) hown', rfl, rfl, rfl⟩ | ((repeat apply Exists.intro); exact ⟨FIN.out _ (X % 128) _ _ _ (by rw [if_neg htn2]; simp) (S1.out hzn) hown', rfl⟩)
            case measure => simp [intOf]; omega
        · by_cases htn2 : t < n
          · go_wp2_with (at_builtin; refine wpList_push rfl _ _ _ rfl _ 1 Tryd.underlying22 elem_u8 (by decide) _ _ _ _ _ _ 1 rfl hown rfl rfl hlen ?_; intro v' w' hown')
            go_roundw
            case rel => first | exact FIN.out _ (X % 128 + 128) _ _ _ (by rw [if_pos htn2]) (S1.out hzn) hown' | exact ⟨_, _, _, FIN.out _ (X % 128 + 128) _ _ _ (by rw [if_pos htn2]) (S1.out hzn) hown', rfl, rfl, rfl⟩ | ((repeat apply Exists.intro); exact ⟨FIN.out _ (X % 128 + 128) _ _ _ (by rw [if_pos htn2]) (S1.out hzn) hown', rfl⟩)
            case measure => simp [intOf]; omega
          · go_wp2_with (at_builtin; refine wpList_push rfl _ _ _ rfl _ 1 Tryd.underlying22 elem_u8 (by decide) _ _ _ _ _ _ 1 rfl hown rfl rfl hlen ?_; intro v' w' hown')
            go_roundw
            case rel => first | exact FIN.out _ (X % 128) _ _ _ (by rw [if_neg htn2]; simp) (S1.out hzn) hown' | exact ⟨_, _, _, FIN.out _ (X % 128) _ _ _ (by rw [if_neg htn2]; simp) (S1.out hzn) hown', rfl, rfl, rfl⟩ | ((repeat apply Exists.intro); exact ⟨FIN.out _ (X % 128) _ _ _ (by rw [if_neg htn2]; simp) (S1.out hzn) hown', rfl⟩)
            case measure => simp [intOf]; omega
      · have htt : t = n + 1 := by omega
        subst htt
        rw [Leb.cand_eq] at hown
        obtain ⟨Ab, cb, rfl, hcb1, hcb2, hslb⟩ := hown.bytes
        have hfr : ∀ q, Ab = some q → w.heap.size ≤ q.block := fun q hq => by
          obtain ⟨g, c, hv, hg, -⟩ := hown.at_ (by rw [u8s_length, Leb.padZ_length]; omega)
          simp only [Value.slice.injEq] at hv
          rw [hv.1] at hq
          injection hq with hq
          subst hq
          exact Nat.le_trans hbw.size hg
        have hb2 := hbw.trans (hown.below.mono hbw.size)
        obtain ⟨r, hr, hr1, hr2⟩ := HREAD.out n hn
        have hlz := Leb.padZ_length n z
        have hav := HA.out
        rw [hlz]
        clear hown
        have hret : n = L → ∀ w' : World, Below wr.heap.size wr w' → ∃ A c, (.slice Ab (n + 1) cb : Value) = .slice A (Leb.padZ z L).length c ∧ Sl w' w'.heap.size A (u8s (Leb.padZ z L)) ∧ Below w.heap.size w w' ∧ (∀ q, A = some q → w.heap.size ≤ q.block) := fun e w' hb' => by
          subst e
          exact ⟨Ab, cb, by rw [hlz], (hslb.below hb').more hb'.size, hb2.trans (hb'.mono hb2.size), hfr⟩
        have HRET := Lib.hid hret
        have HR1 := Lib.hid hr1
        have HR2 := Lib.hid hr2
        cases sign with
        | false =>
          have hRU := ReadU Ab cb (Leb.padZ z n) 0 64 wr _ hslb (Nat.le_refl _) (by omega) hcb2 (by decide) (by omega) (by decide) (by decide)
          simp only [Bool.false_eq_true, if_false] at hr
          rw [show (64 : Int).toNat = 64 from rfl, show (0 : Int).toNat = 0 from rfl, hr, hlz] at hRU
          have HRU := Lib.hid hRU
          clear hRU hr hr1 hr2 hret hlz hav hslb hfr
          by_cases hnL : n = L
          · obtain ⟨k, rfl⟩ := HR1.out hnL
            have HNL := Lib.hid hnL
            clear hnL
            go_wp2_with fail
            with_reducible refine HRU.out.mono ?_
            rintro e w9 ⟨rfl, hb9⟩
            unfold rV
            simp only []
            rw [← HA.out]
            go_wp2
            go_ret
            obtain ⟨A', c', h1, h2, h3⟩ := HRET.out HNL.out _ hb9
            exact ⟨A', c', congrArg Ending.returned h1, h2, h3⟩
          · obtain ⟨y, k, rfl, hy⟩ := HR2.out hnL
            have hya : ((y : Int) == a) = false := by rw [beq_eq_false_iff_ne]; have := HA.out; omega
            go_wp2_with fail
            with_reducible refine HRU.out.mono ?_
            rintro e w9 ⟨rfl, hb9⟩
            unfold rV
            have hb10 := hb2.trans (hb9.mono hb2.size)
            go_wp2
            go_roundw
            case rel => first | exact ⟨n + 1, by omega, by go_num, hb10⟩ | ((repeat apply Exists.intro); exact ⟨⟨n + 1, by omega, by go_num, hb10⟩, rfl⟩)
            case measure => simp [intOf]; omega
        | true =>
          have hRU := ReadS Ab cb (Leb.padZ z n) 0 64 wr _ hslb (Nat.le_refl _) (by omega) hcb2 (by decide) (by omega) (by decide) (by decide)
          simp only [if_true] at hr
          rw [show (64 : Int).toNat = 64 from rfl, show (0 : Int).toNat = 0 from rfl, hr, hlz] at hRU
          have HRU := Lib.hid hRU
          clear hRU hr hr1 hr2 hret hlz hav hslb hfr
          by_cases hnL : n = L
          · obtain ⟨k, rfl⟩ := HR1.out hnL
            have HNL := Lib.hid hnL
            clear hnL
            go_wp2_with fail
            with_reducible refine HRU.out.mono ?_
            rintro e w9 ⟨rfl, hb9⟩
            unfold rV
            simp only []
            rw [← HA.out]
            go_wp2
            go_ret
            obtain ⟨A', c', h1, h2, h3⟩ := HRET.out HNL.out _ hb9
            exact ⟨A', c', congrArg Ending.returned h1, h2, h3⟩
          · obtain ⟨y, k, rfl, hy⟩ := HR2.out hnL
            have hya : ((y : Int) == a) = false := by rw [beq_eq_false_iff_ne]; have := HA.out; omega
            go_wp2_with fail
            with_reducible refine HRU.out.mono ?_
            rintro e w9 ⟨rfl, hb9⟩
            unfold rV
            have hb10 := hb2.trans (hb9.mono hb2.size)
            go_wp2
            go_roundw
            case rel => first | exact ⟨n + 1, by omega, by go_num, hb10⟩ | ((repeat apply Exists.intro); exact ⟨⟨n + 1, by omega, by go_num, hb10⟩, rfl⟩)
            case measure => simp [intOf]; omega

end Go.Proofs.YthkdpcoacjgomaaDoor
