/- The document's own answer for layer 1: a contract of grommetref01.Put. -/
import Derived.Test.YtdmgmlhcpkampaaLebK
import Derived.Test.YtdmgmlhcpkampaaLebH
import Derived.Test.YtdmgmlhcpkampaaLebMath6
namespace Go.Proofs.Ytdmgmlhcpkampaa
open Go.RowKit

/-- one round of the document's digits: the rest of the number. -/
theorem rest_step (z : Int) (i : Nat) (x : Int) (hz1 : -9223372036854775808 ≤ z) (hz2 : z < 18446744073709551616) (hx : x = z / 128 ^ i % 18446744073709551616) :
    (0 ≤ z → x / 128 = z / 128 ^ (i + 1) % 18446744073709551616) ∧
    (z < 0 → x / 128 + 18302628885633695744 = z / 128 ^ (i + 1) % 18446744073709551616) ∧ (x % 128 = z / 128 ^ i % 128) ∧ (z < 0 → x / 128 + 18302628885633695744 < 18446744073709551616) := by
  have hp : (0 : Int) < 128 ^ i := Int.pow_pos (by decide)
  have e1 : z / 128 ^ (i + 1) = z / 128 ^ i / 128 := by rw [Int.pow_succ, ← Int.ediv_ediv_of_nonneg (by omega)]
  rw [e1]
  have h1 : 0 ≤ z → 0 ≤ z / 128 ^ i := fun h => Int.ediv_nonneg h (by omega)
  have h2 : 0 ≤ z → z / 128 ^ i ≤ z := fun h => Int.ediv_le_self _ h
  have h3 : z < 0 → z / 128 ^ i < 0 := fun h => Int.ediv_neg_of_neg_of_pos h hp
  have h4 : z < 0 → z ≤ z / 128 ^ i := fun h => by
    rw [Int.le_ediv_iff_mul_le hp]
    have : (1 : Int) ≤ 128 ^ i := by omega
    have := Int.mul_le_mul_of_nonpos_left (show z ≤ 0 by omega) this
    omega
  generalize z / 128 ^ i = y at *
  refine ⟨fun h => ?_, fun h => ?_, ?_, fun h => ?_⟩
  all_goals
    by_cases hn : z < 0
    · have := h3 hn; have := h4 hn; omega
    · have := h1 (by omega); have := h2 (by omega); omega

theorem candB_snoc (z : Int) (n i : Nat) : (List.range (i + 1)).map (Leb.candB z n) = (List.range i).map (Leb.candB z n) ++ [Leb.candB z n i] := by
  rw [List.range_succ, List.map_append]; rfl

/-- what holds at the head of each round of the inner loop: t digits are laid. -/
def PutRel (z : Int) (n : Nat) (w0 : World) (b x i : Value) (w : World) : Prop := ∃ (t : Nat) (X : Int), t ≤ n + 1 ∧ i = .int .i64 t ∧ x = .int .u64 X ∧ 0 ≤ X ∧ X < 18446744073709551616 ∧ Hid (X = z / 128 ^ t % 18446744073709551616) ∧
      Own w0.heap.size w0 w 5 b (u8s ((List.range t).map (Leb.candB z n)))

set_option maxHeartbeats 4000000 in
set_option maxRecDepth 100000 in
theorem Put_any (v : Nat) (sign : Bool) (w : World) (hv : v < 18446744073709551616) :
    Calls Try.prog 15 #[.int .u64 v, .bool sign] w fun e w' => ∃ A c, e = .returned (.slice A (if sign then Leb.putS (wrap64 v) else Leb.putU v).length c) ∧
      Sl w' w'.heap.size A (u8s (if sign then Leb.putS (wrap64 v) else Leb.putU v)) ∧ Below w.heap.size w w' := by
  -- the number, with or without its sign, and how many digits it has
  obtain ⟨z, L, hL, hz1, hz2, hzv, hput, hread, hx0⟩ : ∃ (z : Int) (L : Nat), L ≤ 9 ∧ -9223372036854775808 ≤ z ∧ z < 18446744073709551616 ∧ (z < 0 ↔ (sign = true ∧ 9223372036854775808 ≤ v)) ∧
      ((if sign then Leb.putS (wrap64 v) else Leb.putU v) = Leb.padZ z L) ∧ (∀ n, n ≤ L → ∃ r : Option (Nat × Nat),
        (if sign then (Leb.sOf (Leb.padZ z n) 0 64).map (fun p => ((p.1 % 18446744073709551616).toNat, p.2)) else Leb.uOf (Leb.padZ z n) 0 64) = r ∧
        (n = L → ∃ k, r = some (v, k)) ∧ (n ≠ L → ∃ y k, r = some (y, k) ∧ y ≠ v)) ∧ (v : Int) = z / 128 ^ 0 % 18446744073709551616 := by
    cases sign with
    | false =>
      obtain ⟨L, p1, p2, p3⟩ := Leb.putU_pad v
      have hL : L ≤ 9 := by
        rcases Nat.lt_or_ge 9 L with h | h
        · have := p3 9 h; omega
        · exact h
      refine ⟨v, L, hL, by omega, by omega, by simp, by simpa using p1, fun n hn => ⟨_, rfl, fun e => ?_, fun e => ?_⟩, by simp; omega⟩
      · subst e
        refine ⟨n + 1, ?_⟩
        simp only [Bool.false_eq_true, if_false]
        rw [Leb.padU_read v n hv (by omega), Nat.mod_eq_of_lt p2]
      · refine ⟨v % 128 ^ (n + 1), n + 1, ?_, ?_⟩
        · simp only [Bool.false_eq_true, if_false]
          rw [Leb.padU_read v n hv (by omega)]
        · have h1 := p3 n (by omega)
          have h2 := Nat.mod_lt v (show 0 < 128 ^ (n + 1) from Nat.pow_pos (by omega))
          omega
    | true =>
      obtain ⟨z1, z2, z3⟩ := wrap64_back v hv
      have hzv : wrap64 v < 0 ↔ 9223372036854775808 ≤ v := by unfold wrap64; omega
      generalize wrap64 v = z at *
      obtain ⟨L, p1, p2, p3, p4⟩ := Leb.putS_pad z.natAbs z (Nat.le_refl _)
      have hL : L ≤ 9 := by
        rcases Nat.lt_or_ge 9 L with h | h
        · have := p4 9 h
          have h9 : (128 : Int) ^ 9 = 9223372036854775808 := by decide
          omega
        · exact h
      refine ⟨z, L, hL, by omega, by omega, by simpa using hzv, by simpa using p1, fun n hn => ⟨_, rfl, fun e => ?_, fun e => ?_⟩, by simp; omega⟩
      · subst e
        obtain ⟨s, q1, q2, q3, q4, q5⟩ := Leb.padS_read z n z1 z2 (by omega)
        refine ⟨n + 1, ?_⟩
        simp only [if_true]
        rw [q1, q5 ⟨p2, p3⟩, Option.map_some, z3]
        simp
      · obtain ⟨s, q1, q2, q3, q4, q5⟩ := Leb.padS_read z n z1 z2 (by omega)
        refine ⟨(s % 18446744073709551616).toNat, n + 1, ?_, ?_⟩
        · simp only [if_true]
          rw [q1, Option.map_some]
        · have := p4 n (by omega)
          omega
  rw [hput]
  have HPUT := Lib.hid hput
  have HREAD := Lib.hid hread
  have HSTEP := Lib.hid (fun i x => rest_step z i x hz1 hz2)
  have HX0 := Lib.hid hx0
  have HZV := Lib.hid hzv
  clear hput hread hx0 hzv
  obtain ⟨a, hA⟩ : ∃ a : Int, a = v := ⟨_, rfl⟩
  have ha0 : 0 ≤ a := by omega
  have ha1 : a < 18446744073709551616 := by omega
  rw [← hA] at HX0 ⊢
  have HA := Lib.hid hA
  have HV := Lib.hid hv
  clear hA hv
  go_enter Try.func15, Try.ntmps15
  go_wp2
  go_loopw [5] (fun s wr => ∃ n : Nat, n ≤ L ∧ s = .int .i64 ((n : Int) + 1) ∧ Below w.heap.size w wr) (fun s _ => 11 - (intOf s).toNat)
  case atStart => exact ⟨0, Nat.zero_le _, rfl, Below.refl _ _⟩
  case round =>
    obtain ⟨n, hn, rfl, hbw⟩ := hrel
    have t10 : decide ((n : Int) + 1 ≤ 10) = true := by simp; omega
    go_wp2
    go_loopw [6, 7, 8] (fun b x i wr2 => PutRel z n wr b x i wr2) (fun _ _ i _ => n + 1 - (intOf i).toNat)
    case atStart => exact ⟨0, a, Nat.zero_le _, rfl, rfl, ha0, ha1, HX0, Own.nil_ _ _ _ (Below.refl _ _) (Nat.le_refl _)⟩
    case round =>
      obtain ⟨t, X, ht, rfl, rfl, hX0, hX1, HX, hown⟩ := hrel
      by_cases htn : t < n + 1
      · obtain ⟨s1, s2, s3, s4⟩ := HSTEP.out t X HX.out
        have hcb : ∀ d : Int, (d = X % 128 + if t < n then 128 else 0) → Hid (u8s ((List.range t).map (Leb.candB z n)) ++ [Value.int .u8 d] = u8s ((List.range (t + 1)).map (Leb.candB z n))) := fun d hd => Lib.hid <| by
          rw [candB_snoc, Leb.candB, u8s_snoc _ _ (by split <;> omega)]
          congr 3
          rw [hd, s3]
          split <;> simp <;> omega
        have hlen : (u8s ((List.range t).map (Leb.candB z n))).length < 1000000000000 := by simp; omega
        have S1 := Lib.hid s1
        have S2 := Lib.hid s2
        have S4 := Lib.hid s4
        have HCB := Lib.hid hcb
        clear s1 s2 s3 s4 hcb
        have hcase : (sign = true ∧ z < 0 ∧ (9223372036854775808 : Int) ≤ a) ∨ (sign = true ∧ 0 ≤ z ∧ a < 9223372036854775808) ∨ (sign = false ∧ 0 ≤ z) := by
          have := HZV.out
          have := HA.out
          cases sign
          · simp at this; simp; omega
          · simp at this; simp; omega
        have fin : ∀ (w0 : World) (d X' : Int) (v' : Value) (w' : World), (d = X % 128 + if t < n then 128 else 0) → X' = z / 128 ^ (t + 1) % 18446744073709551616 → Own w0.heap.size w0 w' 5 v' (u8s ((List.range t).map (Leb.candB z n)) ++ [Value.int .u8 d]) →
            PutRel z n w0 v' (.int .u64 X') (.int .i64 ((t : Int) + 1)) w' := fun w0 d X' v' w' h1 h2 h3 => by
          rw [(HCB.out d h1).out] at h3
          exact ⟨t + 1, X', by omega, by simp, rfl, by omega, by omega, Lib.hid h2, h3⟩
        have FIN := Lib.hid fin
        clear fin
        rcases hcase with ⟨rfl, hzn, hvb⟩ | ⟨rfl, hzn, hvb⟩ | ⟨rfl, hzn⟩
        · have h5 : X / 128 + 18302628885633695744 < 18446744073709551616 := S4.out hzn
          by_cases htn2 : t < n
          · go_wp2_with (at_builtin; refine wpList_push rfl _ _ _ rfl _ 1 Try.underlying22 elem_u8 (by decide) _ _ _ _ _ _ 1 rfl hown rfl rfl hlen ?_; intro v' w' hown')
            go_roundw
            case rel => first | exact FIN.out _ (X % 128 + 128) _ _ _ (by rw [if_pos htn2]) (S2.out hzn) hown' | exact ⟨_, _, _, FIN.out _ (X % 128 + 128) _ _ _ (by rw [if_pos htn2]) (S2.out hzn) hown', rfl, rfl, rfl⟩ | ((repeat apply Exists.intro); exact ⟨FIN.out _ (X % 128 + 128) _ _ _ (by rw [if_pos htn2]) (S2.out hzn) hown', rfl⟩)
            case measure => simp [intOf]; omega
          · go_wp2_with (at_builtin; refine wpList_push rfl _ _ _ rfl _ 1 Try.underlying22 elem_u8 (by decide) _ _ _ _ _ _ 1 rfl hown rfl rfl hlen ?_; intro v' w' hown')
            go_roundw
            case rel => first | exact FIN.out _ (X % 128) _ _ _ (by rw [if_neg htn2]; simp) (S2.out hzn) hown' | exact ⟨_, _, _, FIN.out _ (X % 128) _ _ _ (by rw [if_neg htn2]; simp) (S2.out hzn) hown', rfl, rfl, rfl⟩ | ((repeat apply Exists.intro); exact ⟨FIN.out _ (X % 128) _ _ _ (by rw [if_neg htn2]; simp) (S2.out hzn) hown', rfl⟩)
            case measure => simp [intOf]; omega
        · by_cases htn2 : t < n
          · go_wp2_with (at_builtin; refine wpList_push rfl _ _ _ rfl _ 1 Try.underlying22 elem_u8 (by decide) _ _ _ _ _ _ 1 rfl hown rfl rfl hlen ?_; intro v' w' hown')
            go_roundw
            case rel => first | exact FIN.out _ (X % 128 + 128) _ _ _ (by rw [if_pos htn2]) (S1.out hzn) hown' | exact ⟨_, _, _, FIN.out _ (X % 128 + 128) _ _ _ (by rw [if_pos htn2]) (S1.out hzn) hown', rfl, rfl, rfl⟩ | ((repeat apply Exists.intro); exact ⟨FIN.out _ (X % 128 + 128) _ _ _ (by rw [if_pos htn2]) (S1.out hzn) hown', rfl⟩)
            case measure => simp [intOf]; omega
          · go_wp2_with (at_builtin; refine wpList_push rfl _ _ _ rfl _ 1 Try.underlying22 elem_u8 (by decide) _ _ _ _ _ _ 1 rfl hown rfl rfl hlen ?_; intro v' w' hown')
            go_roundw
            case rel => first | exact FIN.out _ (X % 128) _ _ _ (by rw [if_neg htn2]; simp) (S1.out hzn) hown' | exact ⟨_, _, _, FIN.out _ (X % 128) _ _ _ (by rw [if_neg htn2]; simp) (S1.out hzn) hown', rfl, rfl, rfl⟩ | ((repeat apply Exists.intro); exact ⟨FIN.out _ (X % 128) _ _ _ (by rw [if_neg htn2]; simp) (S1.out hzn) hown', rfl⟩)
            case measure => simp [intOf]; omega
        · by_cases htn2 : t < n
          · go_wp2_with (at_builtin; refine wpList_push rfl _ _ _ rfl _ 1 Try.underlying22 elem_u8 (by decide) _ _ _ _ _ _ 1 rfl hown rfl rfl hlen ?_; intro v' w' hown')
            go_roundw
            case rel => first | exact FIN.out _ (X % 128 + 128) _ _ _ (by rw [if_pos htn2]) (S1.out hzn) hown' | exact ⟨_, _, _, FIN.out _ (X % 128 + 128) _ _ _ (by rw [if_pos htn2]) (S1.out hzn) hown', rfl, rfl, rfl⟩ | ((repeat apply Exists.intro); exact ⟨FIN.out _ (X % 128 + 128) _ _ _ (by rw [if_pos htn2]) (S1.out hzn) hown', rfl⟩)
            case measure => simp [intOf]; omega
          · go_wp2_with (at_builtin; refine wpList_push rfl _ _ _ rfl _ 1 Try.underlying22 elem_u8 (by decide) _ _ _ _ _ _ 1 rfl hown rfl rfl hlen ?_; intro v' w' hown')
            go_roundw
            case rel => first | exact FIN.out _ (X % 128) _ _ _ (by rw [if_neg htn2]; simp) (S1.out hzn) hown' | exact ⟨_, _, _, FIN.out _ (X % 128) _ _ _ (by rw [if_neg htn2]; simp) (S1.out hzn) hown', rfl, rfl, rfl⟩ | ((repeat apply Exists.intro); exact ⟨FIN.out _ (X % 128) _ _ _ (by rw [if_neg htn2]; simp) (S1.out hzn) hown', rfl⟩)
            case measure => simp [intOf]; omega
      · have htt : t = n + 1 := by omega
        subst htt
        rw [Leb.cand_eq] at hown
        obtain ⟨Ab, cb, rfl, hcb1, hcb2, hslb⟩ := hown.bytes
        have hb2 := hbw.trans (hown.below.mono hbw.size)
        obtain ⟨r, hr, hr1, hr2⟩ := HREAD.out n hn
        have hlz := Leb.padZ_length n z
        have hav := HA.out
        rw [hlz]
        clear hown
        have hret : n = L → ∀ w' : World, Below wr.heap.size wr w' → ∃ A c, (.slice Ab (n + 1) cb : Value) = .slice A (Leb.padZ z L).length c ∧ Sl w' w'.heap.size A (u8s (Leb.padZ z L)) ∧ Below w.heap.size w w' := fun e w' hb' => by
          subst e
          exact ⟨Ab, cb, by rw [hlz], (hslb.below hb').more hb'.size, hb2.trans (hb'.mono hb2.size)⟩
        have HRET := Lib.hid hret
        have HR1 := Lib.hid hr1
        have HR2 := Lib.hid hr2
        cases sign with
        | false =>
          have hRU := ReadU Ab cb (Leb.padZ z n) 0 64 wr _ hslb (Nat.le_refl _) (by omega) hcb2 (by decide) (by omega) (by decide) (by decide)
          simp only [Bool.false_eq_true, if_false] at hr
          rw [show (64 : Int).toNat = 64 from rfl, show (0 : Int).toNat = 0 from rfl, hr, hlz] at hRU
          have HRU := Lib.hid hRU
          clear hRU hr hr1 hr2 hret hlz hav hslb
          by_cases hnL : n = L
          · obtain ⟨k, rfl⟩ := HR1.out hnL
            have HNL := Lib.hid hnL
            clear hnL
            go_wp2_with fail
            with_reducible refine HRU.out.mono ?_
            rintro e w9 ⟨rfl, hb9⟩
            unfold rV
            simp only []
            rw [← HA.out]
            go_wp2
            go_ret
            obtain ⟨A', c', h1, h2, h3⟩ := HRET.out HNL.out _ hb9
            exact ⟨A', c', congrArg Ending.returned h1, h2, h3⟩
          · obtain ⟨y, k, rfl, hy⟩ := HR2.out hnL
            have hya : ((y : Int) == a) = false := by rw [beq_eq_false_iff_ne]; have := HA.out; omega
            go_wp2_with fail
            with_reducible refine HRU.out.mono ?_
            rintro e w9 ⟨rfl, hb9⟩
            unfold rV
            have hb10 := hb2.trans (hb9.mono hb2.size)
            go_wp2
            go_roundw
            case rel => first | exact ⟨n + 1, by omega, by go_num, hb10⟩ | ((repeat apply Exists.intro); exact ⟨⟨n + 1, by omega, by go_num, hb10⟩, rfl⟩)
            case measure => simp [intOf]; omega
        | true =>
          have hRU := ReadS Ab cb (Leb.padZ z n) 0 64 wr _ hslb (Nat.le_refl _) (by omega) hcb2 (by decide) (by omega) (by decide) (by decide)
          simp only [if_true] at hr
          rw [show (64 : Int).toNat = 64 from rfl, show (0 : Int).toNat = 0 from rfl, hr, hlz] at hRU
          have HRU := Lib.hid hRU
          clear hRU hr hr1 hr2 hret hlz hav hslb
          by_cases hnL : n = L
          · obtain ⟨k, rfl⟩ := HR1.out hnL
            have HNL := Lib.hid hnL
            clear hnL
            go_wp2_with fail
            with_reducible refine HRU.out.mono ?_
            rintro e w9 ⟨rfl, hb9⟩
            unfold rV
            simp only []
            rw [← HA.out]
            go_wp2
            go_ret
            obtain ⟨A', c', h1, h2, h3⟩ := HRET.out HNL.out _ hb9
            exact ⟨A', c', congrArg Ending.returned h1, h2, h3⟩
          · obtain ⟨y, k, rfl, hy⟩ := HR2.out hnL
            have hya : ((y : Int) == a) = false := by rw [beq_eq_false_iff_ne]; have := HA.out; omega
            go_wp2_with fail
            with_reducible refine HRU.out.mono ?_
            rintro e w9 ⟨rfl, hb9⟩
            unfold rV
            have hb10 := hb2.trans (hb9.mono hb2.size)
            go_wp2
            go_roundw
            case rel => first | exact ⟨n + 1, by omega, by go_num, hb10⟩ | ((repeat apply Exists.intro); exact ⟨⟨n + 1, by omega, by go_num, hb10⟩, rfl⟩)
            case measure => simp [intOf]; omega

end Go.Proofs.Ytdmgmlhcpkampaa
