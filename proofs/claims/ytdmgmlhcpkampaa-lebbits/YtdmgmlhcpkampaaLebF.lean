/- The walk of LebBits: it returns true, whatever the input; nothing that was there changes. -/
import Derived.Test.YtdmgmlhcpkampaaLebD
import Derived.Test.YtdmgmlhcpkampaaLebMath3
import Derived.OpenShut
namespace Go.Proofs.Ytdmgmlhcpkampaa
open Go.RowKit

theorem wrap_pow (n : Nat) (h : n < 64) : IntKind.u64.wrap (2 ^ n) = ((2 ^ n : Nat) : Int) := by
  have h1 : 2 ^ n ≤ 2 ^ 63 := Nat.pow_le_pow_right (by omega) (by omega)
  rw [IntKind.wrap_u64, show ((2 : Int) ^ n) = ((2 ^ n : Nat) : Int) by simp]
  generalize 2 ^ n = P at *
  omega

set_option maxHeartbeats 1000000 in
set_option maxRecDepth 100000 in
theorem walk_LebBits (a bi mo : Int) (w : World) (ha : (Lit.int .u64 a).wf = true) (hb : (Lit.int .i64 bi).wf = true) (hm : (Lit.int .i64 mo).wf = true) :
    Calls Try.prog 6 #[.int .u64 a, .int .i64 bi, .int .i64 mo] w fun e w' => e = .returned (.bool true) ∧ Below w.heap.size w w' := by
  obtain ⟨h1, h2⟩ := bounds_u64 ha
  obtain ⟨v, rfl⟩ := Int.eq_ofNat_of_zero_le h1
  clear ha h1 hb hm
  by_cases hbad : bi < 1 ∨ 64 < bi ∨ mo < bi ∨ 64 < mo
  · by_cases b1 : bi < 1
    · go_enter Try.func6, Try.ntmps6
      go_wp2_with fail
      with_reducible refine (up_any _).mono ?_
      rintro e w1 ⟨rfl, hb1⟩
      go_wp2
      go_ret
      exact ⟨rfl, hb1⟩
    by_cases b2 : 64 < bi
    · go_enter Try.func6, Try.ntmps6
      go_wp2_with fail
      with_reducible refine (up_any _).mono ?_
      rintro e w1 ⟨rfl, hb1⟩
      go_wp2
      go_ret
      exact ⟨rfl, hb1⟩
    by_cases b3 : mo < bi
    · go_enter Try.func6, Try.ntmps6
      go_wp2_with fail
      with_reducible refine (up_any _).mono ?_
      rintro e w1 ⟨rfl, hb1⟩
      go_wp2
      go_ret
      exact ⟨rfl, hb1⟩
    have b4 : 64 < mo := by omega
    clear hbad
    go_enter Try.func6, Try.ntmps6
    go_wp2_with fail
    with_reducible refine (up_any _).mono ?_
    rintro e w1 ⟨rfl, hb1⟩
    go_wp2
    go_ret
    exact ⟨rfl, hb1⟩
  · have b1 : 1 ≤ bi := by omega
    have b2 : bi ≤ 64 := by omega
    have b3 : bi ≤ mo := by omega
    have b4 : mo ≤ 64 := by omega
    have t1 : decide (bi < 1) = false := by simp; omega
    have t2 : decide (64 < bi) = false := by simp; omega
    have t3 : decide (mo < bi) = false := by simp; omega
    have t4 : decide (64 < mo) = false := by simp; omega
    clear hbad
    have hr1 := Leb.put_read v bi.toNat [] (by omega) (by omega)
    have hr2 := Leb.put_read v mo.toNat [] (by omega) (by omega)
    rw [List.append_nil] at hr1 hr2
    have h264 : v < 2 ^ 64 := by omega
    have hmono : v < 2 ^ bi.toNat → v < 2 ^ mo.toNat := fun h => Nat.lt_of_lt_of_le h (Nat.pow_le_pow_right (by omega) (by omega))
    have hex : ∃ r1 r2 : Option (Nat × Nat), Hid (Leb.uOf (Leb.putU v) 0 bi.toNat = r1) ∧ Hid (Leb.uOf (Leb.putU v) 0 mo.toNat = r2) ∧
        ((Hid (v < 2 ^ bi.toNat) ∧ r1 = some (v, (Leb.putU v).length) ∧ r2 = some (v, (Leb.putU v).length)) ∨ (Hid (¬ v < 2 ^ bi.toNat) ∧ bi ≠ 64 ∧ r1 = none)) := by
      refine ⟨_, _, Lib.hid hr1, Lib.hid hr2, ?_⟩
      by_cases hv : v < 2 ^ bi.toNat
      · exact .inl ⟨Lib.hid hv, by rw [if_pos hv], by rw [if_pos (hmono hv)]⟩
      · exact .inr ⟨Lib.hid hv, fun e => hv (by rw [e]; exact h264), by rw [if_neg hv]⟩
    obtain ⟨r1, r2, HR1, HR2, hcase⟩ := hex
    clear hr1 hr2 hmono h264
    have hlen := Leb.putU_len10 (v := v) (by omega)
    rcases hcase with ⟨HV, rfl, rfl⟩ | ⟨HV, hne, rfl⟩
    · by_cases h64 : bi = 64
      · subst h64
        go_enter Try.func6, Try.ntmps6
        go_wp2_with fail
        with_reducible refine (up_any _).mono ?_
        rintro e w1 ⟨rfl, hb1⟩
        go_wp2_with fail
        with_reducible refine (PutU_any _ _ (by omega)).mono ?_
        rintro e w2 ⟨s, rfl, hown⟩
        obtain ⟨A, c, rfl, hc1, hc2, hsl⟩ := hown.bytes
        have hb2 := hb1.trans (hown.below.mono hb1.size)
        have HU := Lib.hid (U_int (at_ := 0) (bits := 64) _ hsl (Nat.le_refl _) rfl hc1 hc2 (by omega) (by omega) (by decide) (by omega) HR1.out)
        have HW := Lib.hid (fun nq => U_int (w := w2.drewN nq) (at_ := 0) (bits := mo) _ (hsl.drewN nq) (Nat.le_refl _) rfl hc1 hc2 (by omega) (by omega) (by decide) (by omega) HR2.out)
        clear hown hsl HR1 HR2 hc1
        generalize (Leb.putU v).length = L at *
        go_wp2_with fail
        with_reducible refine HU.out.mono ?_
        rintro e w3 ⟨rfl, nq, rfl⟩
        unfold uV
        go_wp2_with fail
        with_reducible refine (HW.out nq).mono ?_
        rintro e w3 ⟨rfl, nq2, rfl⟩
        unfold uV
        go_wp2
        go_ret
        exact ⟨rfl, below_drewN hb2 _⟩
      · have t5 : (bi == 64) = false := by rw [beq_eq_false_iff_ne]; exact h64
        have t6 : decide ((v : Int) < IntKind.u64.wrap (2 ^ bi.toNat)) = true := by have := HV.out; rw [wrap_pow _ (by omega)]; generalize 2 ^ bi.toNat = P at *; simp; omega
        go_enter Try.func6, Try.ntmps6
        go_wp2_with fail
        with_reducible refine (up_any _).mono ?_
        rintro e w1 ⟨rfl, hb1⟩
        go_wp2_with fail
        with_reducible refine (PutU_any _ _ (by omega)).mono ?_
        rintro e w2 ⟨s, rfl, hown⟩
        obtain ⟨A, c, rfl, hc1, hc2, hsl⟩ := hown.bytes
        have hb2 := hb1.trans (hown.below.mono hb1.size)
        have HU := Lib.hid (U_int (at_ := 0) (bits := bi) _ hsl (Nat.le_refl _) rfl hc1 hc2 (by omega) (by omega) (by decide) (by omega) HR1.out)
        have HW := Lib.hid (fun nq => U_int (w := w2.drewN nq) (at_ := 0) (bits := mo) _ (hsl.drewN nq) (Nat.le_refl _) rfl hc1 hc2 (by omega) (by omega) (by decide) (by omega) HR2.out)
        clear hown hsl HR1 HR2 hc1
        generalize (Leb.putU v).length = L at *
        go_wp2_with fail
        with_reducible refine HU.out.mono ?_
        rintro e w3 ⟨rfl, nq, rfl⟩
        unfold uV
        go_wp2_with fail
        with_reducible refine (HW.out nq).mono ?_
        rintro e w3 ⟨rfl, nq2, rfl⟩
        unfold uV
        go_wp2
        go_ret
        exact ⟨rfl, below_drewN hb2 _⟩
    · have t5 : (bi == 64) = false := by rw [beq_eq_false_iff_ne]; exact hne
      have t6 : decide ((v : Int) < IntKind.u64.wrap (2 ^ bi.toNat)) = false := by have := HV.out; rw [wrap_pow _ (by omega)]; generalize 2 ^ bi.toNat = P at *; simp; omega
      rcases r2 with _ | ⟨x, n⟩
      all_goals
        go_enter Try.func6, Try.ntmps6
        go_wp2_with fail
        with_reducible refine (up_any _).mono ?_
        rintro e w1 ⟨rfl, hb1⟩
        go_wp2_with fail
        with_reducible refine (PutU_any _ _ (by omega)).mono ?_
        rintro e w2 ⟨s, rfl, hown⟩
        obtain ⟨A, c, rfl, hc1, hc2, hsl⟩ := hown.bytes
        have hb2 := hb1.trans (hown.below.mono hb1.size)
        have HU := Lib.hid (U_int (at_ := 0) (bits := bi) _ hsl (Nat.le_refl _) rfl hc1 hc2 (by omega) (by omega) (by decide) (by omega) HR1.out)
        have HW := Lib.hid (fun nq => U_int (w := w2.drewN nq) (at_ := 0) (bits := mo) _ (hsl.drewN nq) (Nat.le_refl _) rfl hc1 hc2 (by omega) (by omega) (by decide) (by omega) HR2.out)
        clear hown hsl HR1 HR2 hc1
        generalize (Leb.putU v).length = L at *
        go_wp2_with fail
        with_reducible refine HU.out.mono ?_
        rintro e w3 ⟨rfl, nq, rfl⟩
        unfold uV
        go_wp2_with fail
        with_reducible refine (HW.out nq).mono ?_
        rintro e w3 ⟨rfl, nq2, rfl⟩
        unfold uV
        go_wp2
        go_ret
        exact ⟨rfl, below_drewN hb2 _⟩

end Go.Proofs.Ytdmgmlhcpkampaa
