/- The walk of OpBack. -/
import Derived.Test.YtblmhlojbjhmnaaDoorOpG
import Derived.OpenShut
namespace Go.Proofs.YtblmhlojbjhmnaaDoor
open Go.RowKit

section
variable {B : Nat} {w0 w w' : World} {e : TypeId} {xs : List Value} {A : Option Addr} {n c : Nat}
theorem Own.sl (h : Own B w0 w e (.slice A n c) xs) : Sl w w.heap.size A xs := by
  obtain ⟨A', c', h1, -, -, h2⟩ := h.form
  injection h1 with h1
  subst h1
  exact h2
theorem sl_two {w2 w3 : World} {A1 A2 : Option Addr} (hW : Below w2.heap.size w2 w3) (h1 : Sl w2 w2.heap.size A1 xs) (h2 : Sl w3 w3.heap.size A2 xs) (o : Obj) :
    Sl (w3.alloc o) (w3.alloc o).heap.size A1 xs ∧ Sl (w3.alloc o) (w3.alloc o).heap.size A2 xs := by
  have hs := hW.size
  exact ⟨(h1.below (hW.alloc hs o)).more (by simp; omega), (h2.below ((Below.refl _ _).alloc (Nat.le_refl _) o)).more (by simp)⟩
theorem past_cell {w3 w4 : World} {o : Obj} {i : Nat} {v : Value} (hb : Below (w3.alloc o).heap.size (w3.alloc o) w4) (hn : n < w3.heap.size) (k : w3.cell? ⟨n, i, none⟩ = some v) : w4.cell? ⟨n, i, none⟩ = some v :=
  (hb.cell (p := ⟨n, i, none⟩) (by simp; omega)).trans ((World.cell?_alloc_past _ _ _ hn).trans k)
theorem past_below {w2 w3 : World} {o : Obj} (hb : Below (w2.alloc o).heap.size (w2.alloc o) w3) : Below w2.heap.size w2 w3 :=
  ((Below.refl _ _).alloc (Nat.le_refl _) o).trans (hb.mono (by simp))
end

theorem many_op (b : Int) (h : IsOp b) : (Opx.kd b = 11 → Num.many b ≠ 0 ∧ ((Opx.tk b).length : Int) = Num.many b) ∧ (Opx.kd b ≠ 11 → Num.many b = 0) := by
  refine ⟨fun hk => ?_, fun hk => ?_⟩
  · have e : Opx.many b = Num.many b := rfl
    have hm := isOp_many b h hk
    refine ⟨by rcases hm with h | h <;> rw [h] <;> decide, ?_⟩
    simp [Opx.tk, hk, e]
    rcases hm with h | h <;> rw [h] <;> decide
  · obtain ⟨j, rfl, hj, hn⟩ := h
    have := List.all_eq_true.1 Opx.many_num j (by simpa using hj)
    simp [hk] at this
    exact this
theorem many_not (b : Int) (h : Opx.nm b = []) : Num.many b = 0 := by
  by_cases hj : 0 ≤ b ∧ b < 174
  · obtain ⟨j, rfl⟩ := Int.eq_ofNat_of_zero_le hj.1
    have := List.all_eq_true.1 Opx.many_num j (by simp; omega)
    simp [h] at this
    exact this
  · unfold Num.many
    rw [if_neg (by omega), if_neg (by omega)]
theorem flt_not (b : Int) (h : Opx.flt b = true) : Opx.nm b = [] := by
  by_cases hj : 0 ≤ b ∧ b < 174
  · obtain ⟨j, rfl⟩ := Int.eq_ofNat_of_zero_le hj.1
    have := List.all_eq_true.1 Opx.no_flt j (by simp; omega)
    simpa [h] using this
  · rcases Classical.em (Opx.nm b = []) with h1 | h1
    · exact h1
    · obtain ⟨j, rfl, h2, _⟩ := isOp_of b h1
      omega
theorem op_not_flt (b : Int) (h : Opx.nm b ≠ []) : Opx.flt b = false := by
  rcases hq : Opx.flt b with _ | _
  · rfl
  · exact absurd (flt_not b hq) h
theorem tk_short (b : Int) : (Opx.tk b).length ≤ 2 := by
  have hm : Opx.many b ≤ 2 := by unfold Opx.many; repeat' split
                                 all_goals omega
  unfold Opx.tk
  repeat' split
  all_goals simp
  omega

set_option maxHeartbeats 4000000 in
set_option maxRecDepth 100000 in
theorem walk_OpBack (b : Int) (w : World) (hb : (Lit.int .i64 b).wf = true) (hN : Nam w) :
    Calls Tryd.prog 5 #[.int .i64 b] w fun e w' => e = .returned (.bool true) ∧ Below w.heap.size w w' := by
  have hbd := bounds_i64 hb
  have HU := Lib.hid (up_any w hN)
  have HA := Lib.hid (fun w => Args_any b w (by omega) (by omega))
  by_cases hn : Opx.nm b = []
  · have hm := many_not b hn
    have HL : Hid (∃ x : Int, ∀ w1, Below w.heap.size w w1 → Calls Tryd.prog 8 #[.int .i64 b] w1 fun e w' => e = .returned (.tuple #[noV, .iface 31 (.int .i64 x)]) ∧ Below w1.heap.size w1 w') := Lib.hid (by
      rcases hf : Opx.flt b with _ | _
      · exact ⟨5, fun w1 h1 => Look_none b w1 (hN.below h1) (by omega) (by omega) hf hn⟩
      · exact ⟨3, fun w1 _ => Look_flt b w1 hf⟩)
    obtain ⟨x, hL⟩ := HL.out
    have HL := Lib.hid hL
    simp only [argsR, hm] at HA
    unfold noV at HL
    clear hL hm hn hN hb hbd
    go_enter Tryd.func5, Tryd.ntmps5
    go_wp2_with (first
      | (go_at_call 7; refine HU.out.mono ?_; rintro e w1 ⟨rfl, hb1⟩; have h1 := Lib.hid hb1; have hz1 := hb1.size; clear hb1)
      | (go_at_call 8; refine (HL.out _ h1.out).mono ?_; rintro e w2 ⟨rfl, hb2⟩; have h2 := Lib.hid (h1.out.trans (hb2.mono hz1)); have hz2 := hb2.size; clear hb2)
      | (go_at_call 15; refine (HA.out _).mono ?_; rintro e w3 ⟨rfl, rfl⟩))
    go_ret
    exact ⟨rfl, h2.out.alloc (by omega) _⟩
  have hop := isOp_of b hn
  have hfl := op_not_flt b hn
  have HL := Lib.hid (fun w1 (h1 : Below w.heap.size w w1) => Look_op b w1 (hN.below h1) hn hfl)
  have HF := Lib.hid (fun w2 o (h2 : Below w.heap.size w w2) (hz : w.heap.size ≤ w2.heap.size) => Find_op b (Opx.nmB b) (w2.alloc o) (hN.below (h2.alloc hz o)) hn (nmB_list b))
  have hts := tk_short b
  obtain ⟨zs, hzs⟩ : ∃ zs, zs = Opx.tk b := ⟨_, rfl⟩
  have hmo := many_op b hop
  rw [← hzs] at HL HF hts hmo
  unfold opV at HL HF
  have HS := Lib.hid (fun (w : World) (A1 A2 : Option Addr) (c1 c2 : Nat) (h1 : Sl w w.heap.size A1 (i64s zs)) (h2 : Sl w w.heap.size A2 (i64s zs)) => Same_any b (Opx.kd b) (Opx.gv b) (Opx.by_ b) (Opx.nmB b) (Opx.sn b) A1 A2 c1 c2 zs w hts h1 h2)
  have tb : (b == b) = true := by simp
  simp only [argsR] at HA
  clear hts hN hb hbd hzs hfl hop hn
  by_cases hk : Opx.kd b = 11
  · obtain ⟨hm1, hm2⟩ := hmo.1 hk
    obtain ⟨m, hm⟩ : ∃ m, m = Num.many b := ⟨_, rfl⟩
    rw [← hm] at HA hm1 hm2
    have e1 : decide (m ≠ 0) = true := by simpa using hm1
    have t1 : ((zs.length : Int) == m) = true := by simpa using hm2
    rw [e1] at HA
    rw [hk] at HL HF HS
    clear hmo hk hm e1 hm1 hm2
    go_enter Tryd.func5, Tryd.ntmps5
    go_wp2_with (first
      | (go_at_call 7; refine HU.out.mono ?_; rintro e w1 ⟨rfl, hb1⟩; have h1 := Lib.hid hb1; have hz1 := hb1.size; clear hb1)
      | (go_at_call 8; refine (HL.out _ h1.out).mono ?_; rintro e w2 ⟨A1, c1, rfl, ho1⟩; have h2 := Lib.hid (h1.out.trans (ho1.below.mono hz1)); have hz2 := Nat.le_trans hz1 ho1.le; have hs1 := Lib.hid ho1.sl; clear ho1)
      | (go_at_call 15; refine (HA.out _).mono ?_; rintro e w3 ⟨rfl, rfl⟩)
      | (go_at_call 13; refine (HF.out _ _ h2.out hz2).mono ?_; rintro e w3 ⟨A2, c2, rfl, ho2⟩; obtain ⟨hlt, k0, k1, k2, k3, k4, k5, k6, kf⟩ := seven ho2.below; have h3 := Lib.hid (past_below ho2.below); have hs2 := Lib.hid ho2.sl; clear ho2)
      | (go_at_call 10; refine (HS.out _ A1 A2 c1 c2 (sl_two h3.out hs1.out hs2.out _).1 (sl_two h3.out hs1.out hs2.out _).2).mono ?_; rintro e w4 ⟨rfl, hb4⟩; have k0 := past_cell hb4 hlt k0; have k2 := past_cell hb4 hlt k2; have k3 := past_cell hb4 hlt k3; have hB := Lib.hid ((h2.out.trans (h3.out.mono hz2)).trans ((past_below hb4).mono (by omega))); clear hb4))
    go_ret
    exact ⟨rfl, hB.out⟩
  · have hm := hmo.2 hk
    rw [hm] at HA
    have t1 : (Opx.kd b == 11) = false := by simpa using hk
    clear hmo hk hm
    go_enter Tryd.func5, Tryd.ntmps5
    go_wp2_with (first
      | (go_at_call 7; refine HU.out.mono ?_; rintro e w1 ⟨rfl, hb1⟩; have h1 := Lib.hid hb1; have hz1 := hb1.size; clear hb1)
      | (go_at_call 8; refine (HL.out _ h1.out).mono ?_; rintro e w2 ⟨A1, c1, rfl, ho1⟩; have h2 := Lib.hid (h1.out.trans (ho1.below.mono hz1)); have hz2 := Nat.le_trans hz1 ho1.le; have hs1 := Lib.hid ho1.sl; clear ho1)
      | (go_at_call 15; refine (HA.out _).mono ?_; rintro e w3 ⟨rfl, rfl⟩)
      | (go_at_call 13; refine (HF.out _ _ h2.out hz2).mono ?_; rintro e w3 ⟨A2, c2, rfl, ho2⟩; obtain ⟨hlt, k0, k1, k2, k3, k4, k5, k6, kf⟩ := seven ho2.below; have h3 := Lib.hid (past_below ho2.below); have hs2 := Lib.hid ho2.sl; clear ho2)
      | (go_at_call 10; refine (HS.out _ A1 A2 c1 c2 (sl_two h3.out hs1.out hs2.out _).1 (sl_two h3.out hs1.out hs2.out _).2).mono ?_; rintro e w4 ⟨rfl, hb4⟩; have k0 := past_cell hb4 hlt k0; have k2 := past_cell hb4 hlt k2; have k3 := past_cell hb4 hlt k3; have hB := Lib.hid ((h2.out.trans (h3.out.mono hz2)).trans ((past_below hb4).mono (by omega))); clear hb4))
    go_ret
    exact ⟨rfl, hB.out⟩

end Go.Proofs.YtblmhlojbjhmnaaDoor
