/- The document's own answer for layer 1: a contract of grommetref01.Read. -/
import Derived.Test.YtdmgmlhcpkampaaLebI
import Derived.Deep.DeepCutAuto
namespace Go.Proofs.Ytdmgmlhcpkampaa
open Go.RowKit

/-- the lowest n bits as cells. -/
def bitCells (D n : Nat) : List Value := (List.range n).map fun t => .int .i64 (Leb.bitAt D t : Nat)
@[simp] theorem bitCells_length (D n : Nat) : (bitCells D n).length = n := by simp [bitCells]
theorem bitCells_succ (D n : Nat) : bitCells D (n + 1) = bitCells D n ++ [.int .i64 (Leb.bitAt D n : Nat)] := by simp [bitCells, List.range_succ]
theorem bitCells_get (D n t : Nat) (h : t < n) : (bitCells D n)[t]? = some (.int .i64 (Leb.bitAt D t : Nat)) := by simp [bitCells, h]

theorem digs_get (l : List UInt8) (t : Nat) (h : t < l.length) : (digs l)[t]? = some (.int .i64 ((Leb.joinOf l / 2 ^ (7 * t) % 128 : Nat) : Int)) := by
  rw [Leb.joinOf_digit l t h]; simp [digs, h]

theorem bit_digit (D a q : Nat) (hq : q < 7) : Leb.bitAt D (a + q) = D / 2 ^ a % 128 / 2 ^ q % 2 := by
  unfold Leb.bitAt
  rw [Nat.pow_add, ← Nat.div_div_eq_div_mul]
  generalize D / 2 ^ a = E
  have e1 : (128 : Nat) = 2 ^ q * (2 * 2 ^ (6 - q)) := by
    rw [← Nat.pow_succ', ← Nat.pow_add, show q + (6 - q + 1) = 7 by omega]
  have e2 : E = E % 128 + 2 ^ q * (2 * (2 ^ (6 - q) * (E / 128))) := by
    have := (Nat.mod_add_div E 128).symm
    rw [← Nat.mul_assoc 2, ← Nat.mul_assoc (2 ^ q), ← e1]
    exact this
  conv => lhs; rw [e2, Nat.add_mul_div_left _ _ (Nat.pow_pos (by omega)), Nat.add_mul_mod_self_left]

def mo (D j bits : Nat) (sign : Bool) : Nat := if sign then Leb.moreOf D j bits else 0

set_option maxHeartbeats 4000000 in
set_option maxRecDepth 100000 in
theorem Read_any (A : Option Addr) (c : Nat) (bs : List UInt8) (k : Nat) (bits : Nat) (sign : Bool) (w : World) (hs : Sl w w.heap.size A (u8s bs)) (hc : bs.length ≤ c) (hm : c ≤ maxLen) (hk : k ≤ bs.length) (h0 : 1 ≤ bits) (h1 : bits ≤ 64) :
    Calls Try.prog 12 #[.slice A bs.length c, .int .i64 k, .int .i64 bits, .bool sign] w fun e w' => Below w.heap.size w w' ∧
      ((Leb.lenOf (bs.drop k) ((bits + 6) / 7) = none ∧ e = .returned (.tuple #[.int .u64 0, .int .i64 0, .bool false])) ∨
       ∃ j, Leb.lenOf (bs.drop k) ((bits + 6) / 7) = some j ∧
         ((¬ Leb.allBits (Leb.joinOf ((bs.drop k).take j)) (mo (Leb.joinOf ((bs.drop k).take j)) j bits sign) bits (7 * j) ∧ e = .returned (.tuple #[.int .u64 0, .int .i64 0, .bool false])) ∨
          (Leb.allBits (Leb.joinOf ((bs.drop k).take j)) (mo (Leb.joinOf ((bs.drop k).take j)) j bits sign) bits (7 * j) ∧
            e = .returned (.tuple #[.int .u64 (Leb.finalV (Leb.joinOf ((bs.drop k).take j)) (min (7 * j) bits) (mo (Leb.joinOf ((bs.drop k).take j)) j bits sign) : Nat), .int .i64 ((k : Int) + j), .bool true])))) := by
  have hm' := hm
  unfold maxLen at hm'
  obtain ⟨m, hmm⟩ : ∃ m, m = (bits + 6) / 7 := ⟨_, rfl⟩
  have hmI : ((bits : Int) + 6) / 7 = m := by omega
  have hm10 : m ≤ 10 := by omega
  rw [← hmm]
  have HMM := Lib.hid hmm
  have hdig := digits_any A c bs k m w hs hc hm hk hm10
  have HD := Lib.hid hdig
  clear hmm hdig
  go_enter Try.func12, Try.ntmps12
  go_wp2_with fail
  clear hmI
  with_reducible refine HD.out.mono ?_
  rintro e w1 hres
  rcases hres with ⟨hl, rfl, hb1⟩ | ⟨j, s, hl, rfl, hown1⟩
  · have HLN := Lib.hid hl
    clear hl
    go_wp2
    go_ret3
    exact ⟨hb1, .inl ⟨HLN.out, rfl⟩⟩
  · obtain ⟨he, htl⟩ := Leb.enc_of_len _ _ _ hl
    obtain ⟨j1, j2, j3, j4⟩ := Leb.lenOf_of_some _ _ _ hl
    have hlt := Leb.joinOf_lt ((bs.drop k).take j)
    rw [htl] at hlt
    obtain ⟨g, cd, rfl, hg1, hg2, hcd1, hcd2, hcell1, _⟩ := hown1.at_ (by simp only [digs, List.length_map, htl]; omega)
    have hdl : (digs ((bs.drop k).take j)).length = j := by simp [digs]; simpa using htl
    rw [hdl] at hcd1 hcell1 hown1 ⊢
    have hcD : ∀ t, t < j → w1.cell? ⟨g, t, none⟩ = some (.int .i64 ((Leb.joinOf ((bs.drop k).take j) / 2 ^ (7 * t) % 128 : Nat) : Int)) := fun t ht => by
      rw [hcell1 t ht, digs_get _ t (by rw [htl]; exact ht)]
    have HL := Lib.hid hl
    have hb1 := hown1.below
    have hw1 := hown1.le
    obtain ⟨D, hD⟩ : ∃ D, D = Leb.joinOf ((bs.drop k).take j) := ⟨_, rfl⟩
    rw [← hD] at hcD hlt
    have HDD := Lib.hid hD
    have HC := Lib.hid hcD
    have HLT := Lib.hid hlt
    clear hl he htl j4 hcell1 hdl hD hcD hown1 hlt
    go_wp2
    go_loopw [15, 16] (fun s i wr => ∃ t : Nat, t ≤ j ∧ i = .int .i64 t ∧ Own w1.heap.size w1 wr 3 s (bitCells D (7 * t))) (fun _ i _ => j - (intOf i).toNat)
    case atStart => exact ⟨0, Nat.zero_le _, rfl, Own.nil_ _ _ _ (Below.refl _ _) (Nat.le_refl _)⟩
    case round =>
      obtain ⟨t, ht, rfl, hown⟩ := hrel
      by_cases htj : t < j
      · have hcell := (hown.below.cell (p := ⟨g, t, none⟩) hg2).trans (HC.out t htj)
        obtain ⟨X, hX⟩ : ∃ X, X = D / 2 ^ (7 * t) % 128 := ⟨_, rfl⟩
        rw [← hX] at hcell
        have HX := Lib.hid hX
        clear hX
        go_wp2
        go_loopw [15, 17, 18] (fun s x i wr => ∃ q : Nat, q ≤ 7 ∧ i = .int .i64 q ∧ x = .int .i64 ((X / 2 ^ q : Nat) : Int) ∧ Own w1.heap.size w1 wr 3 s (bitCells D (7 * t + q))) (fun _ _ i _ => 7 - (intOf i).toNat)
        case atStart => exact ⟨0, Nat.zero_le _, rfl, by simp, hown⟩
        case round =>
          obtain ⟨q, hq, rfl, rfl, hown2⟩ := hrel
          by_cases hq7 : q < 7
          · obtain ⟨Y, hY⟩ : ∃ Y, Y = X / 2 ^ q := ⟨_, rfl⟩
            have hY2 : X / 2 ^ (q + 1) = Y / 2 := by rw [hY, Nat.pow_succ, Nat.div_div_eq_div_mul]
            have hbit : Leb.bitAt D (7 * t + q) = Y % 2 := by rw [bit_digit D (7 * t) q hq7, hY, HX.out]
            have hYb : Y < 128 := by
              have h1 : X < 128 := by rw [HX.out]; exact Nat.mod_lt _ (by omega)
              have h2 : X / 2 ^ q ≤ X := Nat.div_le_self _ _
              omega
            rw [← hY]
            have HY2 := Lib.hid hY2
            have HB := Lib.hid hbit
            clear hY hY2 hbit
            go_wp2_with (at_builtin; refine wpList_push rfl _ _ _ rfl _ 8 Try.underlying49 elem_int (by decide) _ _ _ _ _ _ 1 rfl hown2 rfl rfl (by simp; omega) ?_; intro v' w' hown')
            go_roundw
            case rel => exact ⟨q + 1, by omega, by go_num, by rw [HY2.out]; simp, by rw [← Nat.add_assoc, bitCells_succ, HB.out]; simpa using hown'⟩
            case measure => simp [intOf]; omega
          · have hq77 : q = 7 := by omega
            subst hq77
            go_wp2
            go_roundw
            case rel => exact ⟨t + 1, by omega, by go_num, by rw [show 7 * (t + 1) = 7 * t + 7 by omega]; exact hown2⟩
            case measure => simp [intOf]; omega
      · have htt : t = j := by omega
        subst htt
        obtain ⟨g2, c2, rfl, hg21, hg22, hc21, hc22, hcell2, _⟩ := hown.at_ (by simp; omega)
        rw [bitCells_length] at hc21 hcell2 ⊢
        have hcB : ∀ i, i < 7 * t → wr.cell? ⟨g2, i, none⟩ = some (.int .i64 (Leb.bitAt D i : Nat)) := fun i hi => by
          rw [hcell2 i hi, bitCells_get D _ i hi]
        have HCB := Lib.hid hcB
        have hbw := hb1.trans (hown.below.mono hw1)
        clear hcB hcell2 hown
        obtain ⟨M, hM⟩ : ∃ M, M = mo D t bits sign := ⟨_, rfl⟩
        have HM := Lib.hid hM
        have hM1 : M ≤ 1 := by
          rw [hM]; unfold mo Leb.moreOf
          have := Leb.bitAt_le D (bits - 1)
          have := Leb.bitAt_le D (7 * t - 1)
          split <;> (try split) <;> omega
        clear hM
        have t0 : ¬ t < t := by omega
        go_upto_if 58 with (fail)
        go_cut [19] (fun s19 wx => s19 = .int .i64 (M : Int) ∧ wx = wr)
        case first =>
          cases sign with
          | false =>
            go_wp2
            go_meet
            case rel => exact ⟨by rw [HM.out]; rfl, rfl⟩
          | true =>
            have f1 : (0 : Int) ≤ 7 * (t : Int) - 1 := by omega
            have f2 : (7 * (t : Int) - 1).toNat = 7 * t - 1 := by omega
            have f3 : ((bits : Int) - 1).toNat = bits - 1 := by omega
            have cA := HCB.out (7 * t - 1) (by omega)
            by_cases hb7 : bits < 7 * t
            · have cB := HCB.out (bits - 1) (by omega)
              have eM : M = Leb.bitAt D (bits - 1) := by rw [HM.out, mo, if_pos rfl, Leb.moreOf, if_pos hb7]
              have EM := Lib.hid eM
              clear eM
              go_wp2
              go_meet
              case rel => exact ⟨by rw [EM.out], rfl⟩
            · have eM : M = Leb.bitAt D (7 * t - 1) := by rw [HM.out, mo, if_pos rfl, Leb.moreOf, if_neg hb7]
              have EM := Lib.hid eM
              clear eM
              go_wp2
              go_meet
              case rel => exact ⟨by rw [EM.out], rfl⟩
        case rest =>
          obtain ⟨rfl, rfl⟩ := hcut
          go_wp2
          go_loop [20] (fun s => ∃ i : Nat, bits ≤ i ∧ i ≤ 70 ∧ s = .int .i64 i ∧ Hid (∀ r, bits ≤ r → r < i → r < 7 * t → Leb.bitAt D r = M)) (fun s => 70 - (intOf s).toNat)
          case atStart => exact ⟨bits, Nat.le_refl _, by omega, rfl, Lib.hid (fun r h1 h2 => by omega)⟩
          case round =>
            obtain ⟨i, hi1, hi2, rfl, HI⟩ := hrel
            by_cases hit : i < 7 * t
            · have hci := HCB.out i hit
              by_cases hbm : Leb.bitAt D i = M
              · have HI2 := Lib.hid (show ∀ r, bits ≤ r → r < i + 1 → r < 7 * t → Leb.bitAt D r = M from fun r a1 a2 a3 => by
                  rcases Nat.lt_or_ge r i with h | h
                  · exact HI.out r a1 h a3
                  · have : r = i := by omega
                    subst this; exact hbm)
                rw [hbm] at hci
                clear hbm
                have tb : ((M : Int) != (M : Int)) = false := by simp
                go_wp2
                go_round
                case rel => exact ⟨i + 1, by omega, by omega, by go_num, HI2⟩
                case measure => simp [intOf]; omega
              · have hno : ¬ Leb.allBits D (mo D t bits sign) bits (7 * t) := fun h => hbm (by rw [HM.out]; exact h i hi1 hit)
                have HNO := Lib.hid hno
                have tb : ((Leb.bitAt D i : Nat) : Int) != (M : Int) := by rw [bne_iff_ne]; omega
                clear hbm hno
                go_wp2
                go_ret3
                refine ⟨hbw, .inr ⟨t, HL.out, .inl ⟨?_, rfl⟩⟩⟩
                rw [← HDD.out]
                exact HNO.out
            · have hall : Leb.allBits D (mo D t bits sign) bits (7 * t) := fun r a1 a2 => by rw [← HM.out]; exact HI.out r a1 (by omega) a2
              have HALL := Lib.hid hall
              clear hall
              have hVlt := Leb.finalV_lt D (min (7 * t) bits) M (by omega) hM1
              have hVbit := fun r (hr : r < 64) => Leb.finalV_bit D (min (7 * t) bits) M r (by omega) hM1 hr
              obtain ⟨V, hV⟩ : ∃ V, V = Leb.finalV D (min (7 * t) bits) M := ⟨_, rfl⟩
              rw [← hV] at hVlt hVbit
              have HV := Lib.hid hV
              have HVB := Lib.hid hVbit
              clear hV hVbit
              go_wp2
              go_loop [21, 22] (fun v s => ∃ r : Nat, r ≤ 64 ∧ s = .int .i64 ((r : Int) - 1) ∧ v = .int .u64 ((V / 2 ^ r : Nat) : Int)) (fun _ s => (intOf s + 1).toNat)
              case atStart => exact ⟨64, by omega, rfl, by rw [Nat.div_eq_of_lt (by omega)]; rfl⟩
              case round =>
                obtain ⟨r, hr, rfl, rfl⟩ := hrel
                rcases Nat.eq_zero_or_pos r with hr0 | hr0
                · subst hr0
                  go_wp2
                  go_ret3
                  refine ⟨hbw, .inr ⟨t, HL.out, .inr ⟨?_, ?_⟩⟩⟩
                  · rw [← HDD.out]; exact HALL.out
                  · rw [← HDD.out, ← HM.out, ← HV.out]
                    exact ret3 (by show Value.int .u64 _ = _; simp) rfl rfl
                · obtain ⟨q, rfl⟩ : ∃ q, r = q + 1 := ⟨r - 1, by omega⟩
                  have eq1 : (((q + 1 : Nat) : Int) - 1) = (q : Int) := by omega
                  rw [eq1]
                  have hstep := HVB.out q (by omega)
                  obtain ⟨U, hU⟩ : ∃ U, U = V / 2 ^ (q + 1) := ⟨_, rfl⟩
                  obtain ⟨U2, hU2⟩ : ∃ U2, U2 = V / 2 ^ q := ⟨_, rfl⟩
                  have hU12 : U = U2 / 2 := by rw [hU, hU2, Nat.pow_succ, Nat.div_div_eq_div_mul]
                  have hU2lt : U2 ≤ V := by rw [hU2]; exact Nat.div_le_self _ _
                  rw [← hU2] at hstep
                  rw [← hU]
                  have HU2 := Lib.hid hU2
                  clear hU hU2 eq1
                  have hUb : U * 2 + 1 < 18446744073709551616 := by omega
                  by_cases hq1 : q < 7 * t
                  · have hci := HCB.out q hq1
                    by_cases hq2 : q < bits
                    · rw [if_pos (by omega)] at hstep
                      have hb := Leb.bitAt_le D q
                      obtain ⟨b, hbq⟩ : ∃ b, b = Leb.bitAt D q := ⟨_, rfl⟩
                      rw [← hbq] at hstep hci hb
                      clear hbq
                      have hfin : ((U : Int) * 2 + b) = (U2 : Int) := by omega
                      have HFIN := Lib.hid hfin
                      clear hfin hstep hU12
                      go_wp2
                      go_round
                      case rel => exact ⟨q, by omega, by go_num, by rw [← HU2.out, HFIN.out]⟩
                      case measure => simp [intOf]
                    · rw [if_neg (by omega)] at hstep
                      have hfin : ((U : Int) * 2 + M) = (U2 : Int) := by omega
                      have HFIN := Lib.hid hfin
                      have tq : decide (q < bits) = false := by simp; omega
                      clear hfin hstep hU12
                      go_wp2
                      go_round
                      case rel => exact ⟨q, by omega, by go_num, by rw [← HU2.out, HFIN.out]⟩
                      case measure => simp [intOf]
                  · rw [if_neg (by omega)] at hstep
                    have hfin : ((U : Int) * 2 + M) = (U2 : Int) := by omega
                    have HFIN := Lib.hid hfin
                    have tq : decide (q < 7 * t) = false := by simp; omega
                    clear hfin hstep hU12
                    go_wp2
                    go_round
                    case rel => exact ⟨q, by omega, by go_num, by rw [← HU2.out, HFIN.out]⟩
                    case measure => simp [intOf]

end Go.Proofs.Ytdmgmlhcpkampaa
