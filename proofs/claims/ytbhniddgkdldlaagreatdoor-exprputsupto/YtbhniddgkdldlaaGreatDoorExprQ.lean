/- Contracts of the reference's writer of layer 6: num, result; a row of bytes that was just made. -/
import Derived.Test.YtbhniddgkdldlaaGreatDoorExprPe
import Derived.Test.YtbhniddgkdldlaaGreatDoorLebU
import Derived.Test.YtbhniddgkdldlaaGreatDoorTreeG0
import Derived.Test.YtbhniddgkdldlaaGreatDoorTreeR10
set_option linter.unusedVariables false
set_option linter.unusedSimpArgs false
namespace Go.Proofs.YtbhniddgkdldlaaGreatDoor
open Go.RowKit Trx

theorem OwB.form {w0 w : World} {v : Value} {bs : List UInt8} (h : OwB w0 w v bs) : ∃ A c, v = .slice A bs.length c ∧ bs.length ≤ c ∧ c ≤ maxLen ∧ Sl w w.heap.size A (u8s bs) := by
  obtain ⟨A, c, hv, h1, h2, h3⟩ := OwnK.form h
  rw [ones_length, u8s_length] at hv h1
  exact ⟨A, c, hv, h1, h2, h3.sl⟩
theorem OwB.lit (w W : World) (hb : Below w.heap.size w W) (n : Int) (x : UInt8) (h : (x.toNat : Int) = n) (m : Nat) (hm : m = W.heap.size) : OwB w (W.alloc (.cells #[.int .u8 n] 5)) (.slice (some ⟨m, 0, none⟩) 1 1) [x] := by
  subst hm h
  refine ⟨?_, by simp [ones, u8s], hb.alloc hb.size _, by have := hb.size; simp; omega⟩
  have := World.ownsRow_lit (base := w.heap.size) (e := 5) (size := 1) W #[.int .u8 (x.toNat : Int)] 1 hb.size (by unfold maxLen; decide) (by simp)
  simpa [ones, u8s] using this
/-- the reference's Put, without a sign and with one. -/
theorem refPutU (n : Int) (w : World) (h0 : 0 ≤ n) (h1 : n < 18446744073709551616) :
    Calls Tryz.prog 38 #[.int .u64 n, .bool false] w fun e w' => ∃ A c, e = .returned (.slice A (eN n).length c) ∧ Sl w' w'.heap.size A (u8s (eN n)) ∧ Below w.heap.size w w' ∧ (∀ q, A = some q → w.heap.size ≤ q.block) := by
  have h := Put_any n.toNat false w (by omega)
  rw [Int.toNat_of_nonneg h0] at h
  have e : eN n = Leb.putU n.toNat := by unfold eN; rw [show (n % 18446744073709551616).toNat = n.toNat by omega]
  rw [e]
  simpa using h
theorem refPutS (n : Int) (z : Int) (w : World) (h0 : 0 ≤ n) (h1 : n < 18446744073709551616) (hz : wrap64 n = z) :
    Calls Tryz.prog 38 #[.int .u64 n, .bool true] w fun e w' => ∃ A c, e = .returned (.slice A (Leb.putS z).length c) ∧ Sl w' w'.heap.size A (u8s (Leb.putS z)) ∧ Below w.heap.size w w' ∧ (∀ q, A = some q → w.heap.size ≤ q.block) := by
  have h := Put_any n.toNat true w (by omega)
  rw [Int.toNat_of_nonneg h0, hz] at h
  simpa using h
set_option maxRecDepth 100000 in
theorem refNum_any (n : Int) (w : World) (h0 : 0 ≤ n) (h1 : n < 4611686018427387904) :
    Calls Tryz.prog 37 #[.int .i64 n] w fun e w' => ∃ A c, e = .returned (.slice A (eN n).length c) ∧ Sl w' w'.heap.size A (u8s (eN n)) ∧ Below w.heap.size w w' ∧ (∀ q, A = some q → w.heap.size ≤ q.block) := by
  have HP := Lib.hid (fun w => refPutU n w h0 (by omega))
  go_enter Tryz.func37, Tryz.ntmps37
  go_wp2_with (first | (go_at_call 38; (with_reducible refine (HP.out _).mono ?_); rintro e w1 ⟨A, c, rfl, hs, hb, hf⟩; have HS := Lib.hid hs; have HB := Lib.hid hb; have HF := Lib.hid hf; clear hs hb hf))
  go_ret
  exact ⟨A, c, rfl, HS.out, HB.out, HF.out⟩
set_option maxRecDepth 100000 in
theorem refResult_any (t : Int) (w : World) (h0 : 0 ≤ t) (h2 : t ≤ 2) : Calls Tryz.prog 36 #[.int .i64 t] w fun e w' => e = .returned (.int .u8 (eRes t).toNat) ∧ w = w' := by
  have : t = 0 ∨ t = 1 ∨ t = 2 := by omega
  rcases this with rfl | rfl | rfl
  all_goals
    go_enter Tryz.func36, Tryz.ntmps36
    go_wp2
    go_ret
    exact ⟨rfl, rfl⟩
/-- what the reference's All does of a list. -/
def AllL (w : World) (f : Fo) (A : Option Addr) (c : Nat) : Prop := ∀ w', Below w.heap.size w w' → Calls Tryz.prog 12 #[.slice A (len f) c] w' fun e w'' => ∃ A' c', e = .returned (.slice A' (enc f).length c') ∧ Sl w'' w''.heap.size A' (u8s (enc f)) ∧ Below w'.heap.size w' w''
def Told1 (w : World) (bs : List UInt8) : Ending → World → Prop := fun e w' => ∃ A c, e = .returned (.slice A bs.length c) ∧ Sl w' w'.heap.size A (u8s bs) ∧ Below w.heap.size w w'
end Go.Proofs.YtbhniddgkdldlaaGreatDoor

/- Contract of the reference's writer of layer 6: grommetref06.one, case by case. -/
namespace Go.Proofs.YtbhniddgkdldlaaGreatDoor
open Go.RowKit Trx

theorem ret_len {A : Option Addr} {m k c : Nat} (h : m = k) : Ending.returned (.slice A m c) = .returned (.slice A k c) := by rw [h]

set_option maxHeartbeats 8000000 in
set_option maxRecDepth 100000 in
theorem refOne_none (n : Nd) (p : Pl) (w : World) (hk : knd n.op ≠ 0) (hfk : knd n.op ≠ 2 ∧ knd n.op ≠ 7 ∧ knd n.op ≠ 8 ∧ knd n.op ≠ 9 ∧ n.op ≠ 65 ∧ n.op ≠ 66 ∧ n.op ≠ 14 ∧ n.op ≠ 17 ∧ knd n.op ≠ 4 ∧ knd n.op ≠ 6 ∧ n.op ≠ 12 ∧ n.op ≠ 13) :
    Calls Tryz.prog 23 #[ndV n p] w (Told1 w ([b8 n.op])) := by
  have hop := knd_in hk
  have hb8 := b8_nat hk
  have hop0 := hop.1
  have hop1 := hop.2
  have HK := Lib.hid (fun w => Kind_any n.op w)
  obtain ⟨kk, hkk⟩ : ∃ kk, kk = knd n.op := ⟨_, rfl⟩
  rw [← hkk] at HK hfk
  obtain ⟨x, hx⟩ : ∃ x, x = b8 n.op := ⟨_, rfl⟩
  rw [← hx] at hb8 ⊢
  have t_k2 : (kk == 2) = false := by simp; omega
  have t_k7 : (kk == 7) = false := by simp; omega
  have t_k8 : (kk == 8) = false := by simp; omega
  have t_k9 : (kk == 9) = false := by simp; omega
  have t_o65 : (n.op == 65) = false := by simp; omega
  have t_o66 : (n.op == 66) = false := by simp; omega
  have t_o14 : (n.op == 14) = false := by simp; omega
  have t_o17 : (n.op == 17) = false := by simp; omega
  have t_k4 : (kk == 4) = false := by simp; omega
  have t_k6 : (kk == 6) = false := by simp; omega
  have t_o12 : (n.op == 12) = false := by simp; omega
  have t_o13 : (n.op == 13) = false := by simp; omega
  clear hx hop hkk hk hfk
  unfold Told1
  go_enter Tryz.func23, Tryz.ntmps23
  go_wp2_with (first
    | (go_at_call 34; (with_reducible refine (HK.out _).mono ?_); rintro e w1 ⟨rfl, hb1⟩; obtain ⟨hX2, t9, -, hbw⟩ := two_box hb1; have m0 : w1.cell? ⟨w.heap.size, 0, none⟩ = some (.int .i64 n.op) := t9 0; have HO1 := Lib.hid ((OwB.lit w _ ((Below.refl _ _).alloc (Nat.le_refl _) _) n.op x hb8 (w.heap.size + 1) (by simp)).later hb1); have HvX : Hid ((Value.slice (some ⟨w.heap.size + 1, 0, none⟩) 1 1).ownBlock ≠ some w.heap.size) := Lib.hid (by simp [Value.ownBlock]); have hX : w.heap.size < w1.heap.size := (by omega); clear hb1 t9 hbw hX2))
  obtain ⟨A9, c9, hv9, -, -, hs9⟩ := HO1.out.form
  have HS9 := Lib.hid hs9
  have HB9 := Lib.hid HO1.out.below
  simp only [Value.slice.injEq] at hv9; obtain ⟨rfl, -, rfl⟩ := hv9
  clear hs9
  go_ret
  refine ⟨_, _, ret_len ?_, ?_, HB9.out⟩
  · simp
  · have := HS9.out
    simpa [List.append_assoc] using this

set_option maxHeartbeats 8000000 in
set_option maxRecDepth 100000 in
theorem refOne_n4 (n : Nd) (p : Pl) (w : World) (hk : knd n.op ≠ 0) (hfk : knd n.op ≠ 2 ∧ knd n.op ≠ 7 ∧ knd n.op ≠ 8 ∧ knd n.op ≠ 9 ∧ n.op ≠ 65 ∧ n.op ≠ 66 ∧ n.op ≠ 14 ∧ n.op ≠ 17 ∧ knd n.op = 4) (ha : 0 ≤ n.a ∧ n.a ≤ 4294967295) :
    Calls Tryz.prog 23 #[ndV n p] w (Told1 w (b8 n.op :: eN n.a)) := by
  have hop := knd_in hk
  have hb8 := b8_nat hk
  have hop0 := hop.1
  have hop1 := hop.2
  have HK := Lib.hid (fun w => Kind_any n.op w)
  obtain ⟨kk, hkk⟩ : ∃ kk, kk = knd n.op := ⟨_, rfl⟩
  rw [← hkk] at HK hfk
  obtain ⟨x, hx⟩ : ∃ x, x = b8 n.op := ⟨_, rfl⟩
  rw [← hx] at hb8 ⊢
  have t_k2 : (kk == 2) = false := by simp; omega
  have t_k7 : (kk == 7) = false := by simp; omega
  have t_k8 : (kk == 8) = false := by simp; omega
  have t_k9 : (kk == 9) = false := by simp; omega
  have t_o65 : (n.op == 65) = false := by simp; omega
  have t_o66 : (n.op == 66) = false := by simp; omega
  have t_o14 : (n.op == 14) = false := by simp; omega
  have t_o17 : (n.op == 17) = false := by simp; omega
  have t_k4 : (kk == 4) = true := by simp; omega
  have ha0 := ha.1
  have ha1 := ha.2
  have h10 := eN_len n.a
  clear ha
  clear hx hop hkk hk hfk
  unfold Told1
  go_enter Tryz.func23, Tryz.ntmps23
  go_wp2_with (first
    | (go_at_call 34; (with_reducible refine (HK.out _).mono ?_); rintro e w1 ⟨rfl, hb1⟩; obtain ⟨hX2, t9, -, hbw⟩ := two_box hb1; have m0 : w1.cell? ⟨w.heap.size, 0, none⟩ = some (.int .i64 n.op) := t9 0; have m1 : w1.cell? ⟨w.heap.size, 1, none⟩ = some (.int .i64 n.a) := t9 1; have HO1 := Lib.hid ((OwB.lit w _ ((Below.refl _ _).alloc (Nat.le_refl _) _) n.op x hb8 (w.heap.size + 1) (by simp)).later hb1); have HvX : Hid ((Value.slice (some ⟨w.heap.size + 1, 0, none⟩) 1 1).ownBlock ≠ some w.heap.size) := Lib.hid (by simp [Value.ownBlock]); have hX : w.heap.size < w1.heap.size := (by omega); clear hb1 t9 hbw hX2)
    | (go_at_call 37; (with_reducible refine (refNum_any (n.a) _ (by omega) (by omega)).mono ?_); rintro e w2 ⟨A2, c2, rfl, hs2, hb2, -⟩; replace m0 := (hb2.cell (p := ⟨w.heap.size, 0, none⟩) hX).trans m0; replace m1 := (hb2.cell (p := ⟨w.heap.size, 1, none⟩) hX).trans m1; have HS2 := Lib.hid hs2; have HO2 := Lib.hid (HO1.out.later hb2); replace hX := Nat.lt_of_lt_of_le hX hb2.size; clear hs2 hb2)
    | (at_builtin; refine wpl_bytes rfl (.tmp 140) (.tmp 143) rfl (eN n.a) rfl HO2.out rfl HS2.out rfl (by simp only [List.length_append, List.length_cons, List.length_nil]; omega) ?_; intro v3 W3 ho3 hk3; replace m0 := hk3.cell' HvX.out m0; replace HvX := Lib.hid (hk3.own hX HvX.out); have HO3 := Lib.hid ho3; replace hX := Nat.lt_of_lt_of_le hX hk3.size; clear ho3 hk3))
  obtain ⟨A9, c9, hv9, -, -, hs9⟩ := HO3.out.form
  have HS9 := Lib.hid hs9
  have HB9 := Lib.hid HO3.out.below
  subst hv9
  clear hs9
  go_ret
  refine ⟨_, _, ret_len ?_, ?_, HB9.out⟩
  · simp
  · have := HS9.out
    simpa [List.append_assoc] using this

set_option maxHeartbeats 8000000 in
set_option maxRecDepth 100000 in
theorem refOne_n6 (n : Nd) (p : Pl) (w : World) (hk : knd n.op ≠ 0) (hfk : knd n.op ≠ 2 ∧ knd n.op ≠ 7 ∧ knd n.op ≠ 8 ∧ knd n.op ≠ 9 ∧ n.op ≠ 65 ∧ n.op ≠ 66 ∧ n.op ≠ 14 ∧ n.op ≠ 17 ∧ knd n.op ≠ 4 ∧ knd n.op = 6) (ha : 0 ≤ n.a ∧ n.a ≤ 4294967295) :
    Calls Tryz.prog 23 #[ndV n p] w (Told1 w (b8 n.op :: eN n.a)) := by
  have hop := knd_in hk
  have hb8 := b8_nat hk
  have hop0 := hop.1
  have hop1 := hop.2
  have HK := Lib.hid (fun w => Kind_any n.op w)
  obtain ⟨kk, hkk⟩ : ∃ kk, kk = knd n.op := ⟨_, rfl⟩
  rw [← hkk] at HK hfk
  obtain ⟨x, hx⟩ : ∃ x, x = b8 n.op := ⟨_, rfl⟩
  rw [← hx] at hb8 ⊢
  have t_k2 : (kk == 2) = false := by simp; omega
  have t_k7 : (kk == 7) = false := by simp; omega
  have t_k8 : (kk == 8) = false := by simp; omega
  have t_k9 : (kk == 9) = false := by simp; omega
  have t_o65 : (n.op == 65) = false := by simp; omega
  have t_o66 : (n.op == 66) = false := by simp; omega
  have t_o14 : (n.op == 14) = false := by simp; omega
  have t_o17 : (n.op == 17) = false := by simp; omega
  have t_k4 : (kk == 4) = false := by simp; omega
  have t_k6 : (kk == 6) = true := by simp; omega
  have ha0 := ha.1
  have ha1 := ha.2
  have h10 := eN_len n.a
  clear ha
  clear hx hop hkk hk hfk
  unfold Told1
  go_enter Tryz.func23, Tryz.ntmps23
  go_wp2_with (first
    | (go_at_call 34; (with_reducible refine (HK.out _).mono ?_); rintro e w1 ⟨rfl, hb1⟩; obtain ⟨hX2, t9, -, hbw⟩ := two_box hb1; have m0 : w1.cell? ⟨w.heap.size, 0, none⟩ = some (.int .i64 n.op) := t9 0; have m1 : w1.cell? ⟨w.heap.size, 1, none⟩ = some (.int .i64 n.a) := t9 1; have HO1 := Lib.hid ((OwB.lit w _ ((Below.refl _ _).alloc (Nat.le_refl _) _) n.op x hb8 (w.heap.size + 1) (by simp)).later hb1); have HvX : Hid ((Value.slice (some ⟨w.heap.size + 1, 0, none⟩) 1 1).ownBlock ≠ some w.heap.size) := Lib.hid (by simp [Value.ownBlock]); have hX : w.heap.size < w1.heap.size := (by omega); clear hb1 t9 hbw hX2)
    | (go_at_call 37; (with_reducible refine (refNum_any (n.a) _ (by omega) (by omega)).mono ?_); rintro e w2 ⟨A2, c2, rfl, hs2, hb2, -⟩; replace m0 := (hb2.cell (p := ⟨w.heap.size, 0, none⟩) hX).trans m0; replace m1 := (hb2.cell (p := ⟨w.heap.size, 1, none⟩) hX).trans m1; have HS2 := Lib.hid hs2; have HO2 := Lib.hid (HO1.out.later hb2); replace hX := Nat.lt_of_lt_of_le hX hb2.size; clear hs2 hb2)
    | (at_builtin; refine wpl_bytes rfl (.tmp 140) (.tmp 143) rfl (eN n.a) rfl HO2.out rfl HS2.out rfl (by simp only [List.length_append, List.length_cons, List.length_nil]; omega) ?_; intro v3 W3 ho3 hk3; replace m0 := hk3.cell' HvX.out m0; replace HvX := Lib.hid (hk3.own hX HvX.out); have HO3 := Lib.hid ho3; replace hX := Nat.lt_of_lt_of_le hX hk3.size; clear ho3 hk3))
  obtain ⟨A9, c9, hv9, -, -, hs9⟩ := HO3.out.form
  have HS9 := Lib.hid hs9
  have HB9 := Lib.hid HO3.out.below
  subst hv9
  clear hs9
  go_ret
  refine ⟨_, _, ret_len ?_, ?_, HB9.out⟩
  · simp
  · have := HS9.out
    simpa [List.append_assoc] using this

set_option maxHeartbeats 8000000 in
set_option maxRecDepth 100000 in
theorem refOne_n12 (n : Nd) (p : Pl) (w : World) (hk : knd n.op ≠ 0) (hfk : knd n.op ≠ 2 ∧ knd n.op ≠ 7 ∧ knd n.op ≠ 8 ∧ knd n.op ≠ 9 ∧ n.op ≠ 65 ∧ n.op ≠ 66 ∧ n.op ≠ 14 ∧ n.op ≠ 17 ∧ knd n.op ≠ 4 ∧ knd n.op ≠ 6 ∧ n.op = 12) (ha : 0 ≤ n.a ∧ n.a ≤ 4294967295) :
    Calls Tryz.prog 23 #[ndV n p] w (Told1 w (b8 n.op :: eN n.a)) := by
  have hop := knd_in hk
  have hb8 := b8_nat hk
  have hop0 := hop.1
  have hop1 := hop.2
  have HK := Lib.hid (fun w => Kind_any n.op w)
  obtain ⟨kk, hkk⟩ : ∃ kk, kk = knd n.op := ⟨_, rfl⟩
  rw [← hkk] at HK hfk
  obtain ⟨x, hx⟩ : ∃ x, x = b8 n.op := ⟨_, rfl⟩
  rw [← hx] at hb8 ⊢
  have t_k2 : (kk == 2) = false := by simp; omega
  have t_k7 : (kk == 7) = false := by simp; omega
  have t_k8 : (kk == 8) = false := by simp; omega
  have t_k9 : (kk == 9) = false := by simp; omega
  have t_o65 : (n.op == 65) = false := by simp; omega
  have t_o66 : (n.op == 66) = false := by simp; omega
  have t_o14 : (n.op == 14) = false := by simp; omega
  have t_o17 : (n.op == 17) = false := by simp; omega
  have t_k4 : (kk == 4) = false := by simp; omega
  have t_k6 : (kk == 6) = false := by simp; omega
  have t_o12 : (n.op == 12) = true := by simp; omega
  have ha0 := ha.1
  have ha1 := ha.2
  have h10 := eN_len n.a
  clear ha
  clear hx hop hkk hk hfk
  unfold Told1
  go_enter Tryz.func23, Tryz.ntmps23
  go_wp2_with (first
    | (go_at_call 34; (with_reducible refine (HK.out _).mono ?_); rintro e w1 ⟨rfl, hb1⟩; obtain ⟨hX2, t9, -, hbw⟩ := two_box hb1; have m0 : w1.cell? ⟨w.heap.size, 0, none⟩ = some (.int .i64 n.op) := t9 0; have m1 : w1.cell? ⟨w.heap.size, 1, none⟩ = some (.int .i64 n.a) := t9 1; have HO1 := Lib.hid ((OwB.lit w _ ((Below.refl _ _).alloc (Nat.le_refl _) _) n.op x hb8 (w.heap.size + 1) (by simp)).later hb1); have HvX : Hid ((Value.slice (some ⟨w.heap.size + 1, 0, none⟩) 1 1).ownBlock ≠ some w.heap.size) := Lib.hid (by simp [Value.ownBlock]); have hX : w.heap.size < w1.heap.size := (by omega); clear hb1 t9 hbw hX2)
    | (go_at_call 37; (with_reducible refine (refNum_any (n.a) _ (by omega) (by omega)).mono ?_); rintro e w2 ⟨A2, c2, rfl, hs2, hb2, -⟩; replace m0 := (hb2.cell (p := ⟨w.heap.size, 0, none⟩) hX).trans m0; replace m1 := (hb2.cell (p := ⟨w.heap.size, 1, none⟩) hX).trans m1; have HS2 := Lib.hid hs2; have HO2 := Lib.hid (HO1.out.later hb2); replace hX := Nat.lt_of_lt_of_le hX hb2.size; clear hs2 hb2)
    | (at_builtin; refine wpl_bytes rfl (.tmp 140) (.tmp 143) rfl (eN n.a) rfl HO2.out rfl HS2.out rfl (by simp only [List.length_append, List.length_cons, List.length_nil]; omega) ?_; intro v3 W3 ho3 hk3; replace m0 := hk3.cell' HvX.out m0; replace HvX := Lib.hid (hk3.own hX HvX.out); have HO3 := Lib.hid ho3; replace hX := Nat.lt_of_lt_of_le hX hk3.size; clear ho3 hk3))
  obtain ⟨A9, c9, hv9, -, -, hs9⟩ := HO3.out.form
  have HS9 := Lib.hid hs9
  have HB9 := Lib.hid HO3.out.below
  subst hv9
  clear hs9
  go_ret
  refine ⟨_, _, ret_len ?_, ?_, HB9.out⟩
  · simp
  · have := HS9.out
    simpa [List.append_assoc] using this

set_option maxHeartbeats 8000000 in
set_option maxRecDepth 100000 in
theorem refOne_n13 (n : Nd) (p : Pl) (w : World) (hk : knd n.op ≠ 0) (hfk : knd n.op ≠ 2 ∧ knd n.op ≠ 7 ∧ knd n.op ≠ 8 ∧ knd n.op ≠ 9 ∧ n.op ≠ 65 ∧ n.op ≠ 66 ∧ n.op ≠ 14 ∧ n.op ≠ 17 ∧ knd n.op ≠ 4 ∧ knd n.op ≠ 6 ∧ n.op ≠ 12 ∧ n.op = 13) (ha : 0 ≤ n.a ∧ n.a ≤ 4294967295) :
    Calls Tryz.prog 23 #[ndV n p] w (Told1 w (b8 n.op :: eN n.a)) := by
  have hop := knd_in hk
  have hb8 := b8_nat hk
  have hop0 := hop.1
  have hop1 := hop.2
  have HK := Lib.hid (fun w => Kind_any n.op w)
  obtain ⟨kk, hkk⟩ : ∃ kk, kk = knd n.op := ⟨_, rfl⟩
  rw [← hkk] at HK hfk
  obtain ⟨x, hx⟩ : ∃ x, x = b8 n.op := ⟨_, rfl⟩
  rw [← hx] at hb8 ⊢
  have t_k2 : (kk == 2) = false := by simp; omega
  have t_k7 : (kk == 7) = false := by simp; omega
  have t_k8 : (kk == 8) = false := by simp; omega
  have t_k9 : (kk == 9) = false := by simp; omega
  have t_o65 : (n.op == 65) = false := by simp; omega
  have t_o66 : (n.op == 66) = false := by simp; omega
  have t_o14 : (n.op == 14) = false := by simp; omega
  have t_o17 : (n.op == 17) = false := by simp; omega
  have t_k4 : (kk == 4) = false := by simp; omega
  have t_k6 : (kk == 6) = false := by simp; omega
  have t_o12 : (n.op == 12) = false := by simp; omega
  have t_o13 : (n.op == 13) = true := by simp; omega
  have ha0 := ha.1
  have ha1 := ha.2
  have h10 := eN_len n.a
  clear ha
  clear hx hop hkk hk hfk
  unfold Told1
  go_enter Tryz.func23, Tryz.ntmps23
  go_wp2_with (first
    | (go_at_call 34; (with_reducible refine (HK.out _).mono ?_); rintro e w1 ⟨rfl, hb1⟩; obtain ⟨hX2, t9, -, hbw⟩ := two_box hb1; have m0 : w1.cell? ⟨w.heap.size, 0, none⟩ = some (.int .i64 n.op) := t9 0; have m1 : w1.cell? ⟨w.heap.size, 1, none⟩ = some (.int .i64 n.a) := t9 1; have HO1 := Lib.hid ((OwB.lit w _ ((Below.refl _ _).alloc (Nat.le_refl _) _) n.op x hb8 (w.heap.size + 1) (by simp)).later hb1); have HvX : Hid ((Value.slice (some ⟨w.heap.size + 1, 0, none⟩) 1 1).ownBlock ≠ some w.heap.size) := Lib.hid (by simp [Value.ownBlock]); have hX : w.heap.size < w1.heap.size := (by omega); clear hb1 t9 hbw hX2)
    | (go_at_call 37; (with_reducible refine (refNum_any (n.a) _ (by omega) (by omega)).mono ?_); rintro e w2 ⟨A2, c2, rfl, hs2, hb2, -⟩; replace m0 := (hb2.cell (p := ⟨w.heap.size, 0, none⟩) hX).trans m0; replace m1 := (hb2.cell (p := ⟨w.heap.size, 1, none⟩) hX).trans m1; have HS2 := Lib.hid hs2; have HO2 := Lib.hid (HO1.out.later hb2); replace hX := Nat.lt_of_lt_of_le hX hb2.size; clear hs2 hb2)
    | (at_builtin; refine wpl_bytes rfl (.tmp 140) (.tmp 143) rfl (eN n.a) rfl HO2.out rfl HS2.out rfl (by simp only [List.length_append, List.length_cons, List.length_nil]; omega) ?_; intro v3 W3 ho3 hk3; replace m0 := hk3.cell' HvX.out m0; replace HvX := Lib.hid (hk3.own hX HvX.out); have HO3 := Lib.hid ho3; replace hX := Nat.lt_of_lt_of_le hX hk3.size; clear ho3 hk3))
  obtain ⟨A9, c9, hv9, -, -, hs9⟩ := HO3.out.form
  have HS9 := Lib.hid hs9
  have HB9 := Lib.hid HO3.out.below
  subst hv9
  clear hs9
  go_ret
  refine ⟨_, _, ret_len ?_, ?_, HB9.out⟩
  · simp
  · have := HS9.out
    simpa [List.append_assoc] using this

set_option maxHeartbeats 8000000 in
set_option maxRecDepth 100000 in
theorem refOne_17 (n : Nd) (p : Pl) (w : World) (hk : knd n.op ≠ 0) (hfk : knd n.op ≠ 2 ∧ knd n.op ≠ 7 ∧ knd n.op ≠ 8 ∧ knd n.op ≠ 9 ∧ n.op ≠ 65 ∧ n.op ≠ 66 ∧ n.op ≠ 14 ∧ n.op = 17) (ha : 0 ≤ n.a ∧ n.a ≤ 4294967295) :
    Calls Tryz.prog 23 #[ndV n p] w (Told1 w (b8 n.op :: (eN n.a ++ [0]))) := by
  have hop := knd_in hk
  have hb8 := b8_nat hk
  have hop0 := hop.1
  have hop1 := hop.2
  have HK := Lib.hid (fun w => Kind_any n.op w)
  obtain ⟨kk, hkk⟩ : ∃ kk, kk = knd n.op := ⟨_, rfl⟩
  rw [← hkk] at HK hfk
  obtain ⟨x, hx⟩ : ∃ x, x = b8 n.op := ⟨_, rfl⟩
  rw [← hx] at hb8 ⊢
  have t_k2 : (kk == 2) = false := by simp; omega
  have t_k7 : (kk == 7) = false := by simp; omega
  have t_k8 : (kk == 8) = false := by simp; omega
  have t_k9 : (kk == 9) = false := by simp; omega
  have t_o65 : (n.op == 65) = false := by simp; omega
  have t_o66 : (n.op == 66) = false := by simp; omega
  have t_o14 : (n.op == 14) = false := by simp; omega
  have t_o17 : (n.op == 17) = true := by simp; omega
  have ha0 := ha.1
  have ha1 := ha.2
  have h10 := eN_len n.a
  clear ha
  clear hx hop hkk hk hfk
  unfold Told1
  go_enter Tryz.func23, Tryz.ntmps23
  go_wp2_with (first
    | (go_at_call 34; (with_reducible refine (HK.out _).mono ?_); rintro e w1 ⟨rfl, hb1⟩; obtain ⟨hX2, t9, -, hbw⟩ := two_box hb1; have m0 : w1.cell? ⟨w.heap.size, 0, none⟩ = some (.int .i64 n.op) := t9 0; have m1 : w1.cell? ⟨w.heap.size, 1, none⟩ = some (.int .i64 n.a) := t9 1; have HO1 := Lib.hid ((OwB.lit w _ ((Below.refl _ _).alloc (Nat.le_refl _) _) n.op x hb8 (w.heap.size + 1) (by simp)).later hb1); have HvX : Hid ((Value.slice (some ⟨w.heap.size + 1, 0, none⟩) 1 1).ownBlock ≠ some w.heap.size) := Lib.hid (by simp [Value.ownBlock]); have hX : w.heap.size < w1.heap.size := (by omega); clear hb1 t9 hbw hX2)
    | (go_at_call 37; (with_reducible refine (refNum_any (n.a) _ (by omega) (by omega)).mono ?_); rintro e w2 ⟨A2, c2, rfl, hs2, hb2, -⟩; replace m0 := (hb2.cell (p := ⟨w.heap.size, 0, none⟩) hX).trans m0; replace m1 := (hb2.cell (p := ⟨w.heap.size, 1, none⟩) hX).trans m1; have HS2 := Lib.hid hs2; have HO2 := Lib.hid (HO1.out.later hb2); replace hX := Nat.lt_of_lt_of_le hX hb2.size; clear hs2 hb2)
    | (at_builtin; refine wpl_bytes rfl (.tmp 116) (.tmp 119) rfl (eN n.a) rfl HO2.out rfl HS2.out rfl (by simp only [List.length_append, List.length_cons, List.length_nil]; omega) ?_; intro v3 W3 ho3 hk3; replace m0 := hk3.cell' HvX.out m0; replace HvX := Lib.hid (hk3.own hX HvX.out); have HO3 := Lib.hid ho3; replace hX := Nat.lt_of_lt_of_le hX hk3.size; clear ho3 hk3)
    | (at_builtin; refine wpl_bytes rfl (.tmp 120) (.tmp 121) rfl [0] rfl (HO3.out.later ((Below.refl _ _).alloc (Nat.le_refl _) _)) rfl (Sl.newbyte _ _ _ rfl _ _ (by simp)) rfl (by simp only [List.length_append, List.length_cons, List.length_nil]; omega) ?_; intro v4 W4 ho4 hk4; replace m0 := hk4.cell' HvX.out ((World.cell?_alloc_lt _ _ _ hX).trans m0); replace HvX := Lib.hid (hk4.own (by simp; omega) HvX.out); have HO4 := Lib.hid ho4; replace hX := Nat.lt_of_lt_of_le hX (Nat.le_trans (by simp) hk4.size); clear ho4 hk4))
  obtain ⟨A9, c9, hv9, -, -, hs9⟩ := HO4.out.form
  have HS9 := Lib.hid hs9
  have HB9 := Lib.hid HO4.out.below
  subst hv9
  clear hs9
  go_ret
  refine ⟨_, _, ret_len ?_, ?_, HB9.out⟩
  · simp
  · have := HS9.out
    simpa [List.append_assoc] using this

set_option maxHeartbeats 8000000 in
set_option maxRecDepth 100000 in
theorem refOne_zero (n : Nd) (p : Pl) (w : World) (hk : knd n.op ≠ 0) (hfk : knd n.op ≠ 2 ∧ knd n.op ≠ 7 ∧ knd n.op ≠ 8 ∧ knd n.op = 9) :
    Calls Tryz.prog 23 #[ndV n p] w (Told1 w (b8 n.op :: [0])) := by
  have hop := knd_in hk
  have hb8 := b8_nat hk
  have hop0 := hop.1
  have hop1 := hop.2
  have HK := Lib.hid (fun w => Kind_any n.op w)
  obtain ⟨kk, hkk⟩ : ∃ kk, kk = knd n.op := ⟨_, rfl⟩
  rw [← hkk] at HK hfk
  obtain ⟨x, hx⟩ : ∃ x, x = b8 n.op := ⟨_, rfl⟩
  rw [← hx] at hb8 ⊢
  have t_k2 : (kk == 2) = false := by simp; omega
  have t_k7 : (kk == 7) = false := by simp; omega
  have t_k8 : (kk == 8) = false := by simp; omega
  have t_k9 : (kk == 9) = true := by simp; omega
  clear hx hop hkk hk hfk
  unfold Told1
  go_enter Tryz.func23, Tryz.ntmps23
  go_wp2_with (first
    | (go_at_call 34; (with_reducible refine (HK.out _).mono ?_); rintro e w1 ⟨rfl, hb1⟩; obtain ⟨hX2, t9, -, hbw⟩ := two_box hb1; have m0 : w1.cell? ⟨w.heap.size, 0, none⟩ = some (.int .i64 n.op) := t9 0; have HO1 := Lib.hid ((OwB.lit w _ ((Below.refl _ _).alloc (Nat.le_refl _) _) n.op x hb8 (w.heap.size + 1) (by simp)).later hb1); have HvX : Hid ((Value.slice (some ⟨w.heap.size + 1, 0, none⟩) 1 1).ownBlock ≠ some w.heap.size) := Lib.hid (by simp [Value.ownBlock]); have hX : w.heap.size < w1.heap.size := (by omega); clear hb1 t9 hbw hX2)
    | (at_builtin; refine wpl_bytes rfl (.tmp 60) (.tmp 61) rfl [0] rfl (HO1.out.later ((Below.refl _ _).alloc (Nat.le_refl _) _)) rfl (Sl.newbyte _ _ _ rfl _ _ (by simp)) rfl (by simp only [List.length_append, List.length_cons, List.length_nil]; omega) ?_; intro v2 W2 ho2 hk2; replace m0 := hk2.cell' HvX.out ((World.cell?_alloc_lt _ _ _ hX).trans m0); replace HvX := Lib.hid (hk2.own (by simp; omega) HvX.out); have HO2 := Lib.hid ho2; replace hX := Nat.lt_of_lt_of_le hX (Nat.le_trans (by simp) hk2.size); clear ho2 hk2))
  obtain ⟨A9, c9, hv9, -, -, hs9⟩ := HO2.out.form
  have HS9 := Lib.hid hs9
  have HB9 := Lib.hid HO2.out.below
  subst hv9
  clear hs9
  go_ret
  refine ⟨_, _, ret_len ?_, ?_, HB9.out⟩
  · simp
  · have := HS9.out
    simpa [List.append_assoc] using this

set_option maxHeartbeats 8000000 in
set_option maxRecDepth 100000 in
theorem refOne_65a (n : Nd) (p : Pl) (w : World) (hk : knd n.op ≠ 0) (hfk : knd n.op ≠ 2 ∧ knd n.op ≠ 7 ∧ knd n.op ≠ 8 ∧ knd n.op ≠ 9 ∧ n.op = 65) (hv0 : 0 ≤ n.v) (hv1 : n.v ≤ 4294967295) (hv2 : n.v < 2147483648) :
    Calls Tryz.prog 23 #[ndV n p] w (Told1 w (b8 n.op :: Leb.putS (n.v))) := by
  have hop := knd_in hk
  have hb8 := b8_nat hk
  have hop0 := hop.1
  have hop1 := hop.2
  have HK := Lib.hid (fun w => Kind_any n.op w)
  obtain ⟨kk, hkk⟩ : ∃ kk, kk = knd n.op := ⟨_, rfl⟩
  rw [← hkk] at HK hfk
  obtain ⟨x, hx⟩ : ∃ x, x = b8 n.op := ⟨_, rfl⟩
  rw [← hx] at hb8 ⊢
  have t_k2 : (kk == 2) = false := by simp; omega
  have t_k7 : (kk == 7) = false := by simp; omega
  have t_k8 : (kk == 8) = false := by simp; omega
  have t_k9 : (kk == 9) = false := by simp; omega
  have t_o65 : (n.op == 65) = true := by simp; omega
  have tv : decide (2147483648 ≤ n.v) = false := by simp; omega
  have hp : (Leb.putS (n.v)).length ≤ 10 := Leb.putS_len10 (by omega) (by omega)
  have HP := Lib.hid (fun w => refPutS (n.v) (n.v) w (by omega) (by omega) (by unfold wrap64; omega))
  clear hx hop hkk hk hfk
  unfold Told1
  go_enter Tryz.func23, Tryz.ntmps23
  go_wp2_with (first
    | (go_at_call 34; (with_reducible refine (HK.out _).mono ?_); rintro e w1 ⟨rfl, hb1⟩; obtain ⟨hX2, t9, -, hbw⟩ := two_box hb1; have m0 : w1.cell? ⟨w.heap.size, 0, none⟩ = some (.int .i64 n.op) := t9 0; have m3 : w1.cell? ⟨w.heap.size, 3, none⟩ = some (.int .u64 n.v) := t9 3; have HO1 := Lib.hid ((OwB.lit w _ ((Below.refl _ _).alloc (Nat.le_refl _) _) n.op x hb8 (w.heap.size + 1) (by simp)).later hb1); have HvX : Hid ((Value.slice (some ⟨w.heap.size + 1, 0, none⟩) 1 1).ownBlock ≠ some w.heap.size) := Lib.hid (by simp [Value.ownBlock]); have hX : w.heap.size < w1.heap.size := (by omega); clear hb1 t9 hbw hX2)
    | (go_at_call 38; (with_reducible refine (HP.out _).mono ?_); rintro e w2 ⟨A2, c2, rfl, hs2, hb2, -⟩; replace m0 := (hb2.cell (p := ⟨w.heap.size, 0, none⟩) hX).trans m0; have HS2 := Lib.hid hs2; have HO2 := Lib.hid (HO1.out.later hb2); replace hX := Nat.lt_of_lt_of_le hX hb2.size; clear hs2 hb2)
    | (at_builtin; refine wpl_bytes rfl (.tmp 73) (.tmp 75) rfl (Leb.putS (n.v)) rfl HO2.out rfl HS2.out rfl (by simp only [List.length_append, List.length_cons, List.length_nil]; omega) ?_; intro v3 W3 ho3 hk3; replace m0 := hk3.cell' HvX.out m0; replace HvX := Lib.hid (hk3.own hX HvX.out); have HO3 := Lib.hid ho3; replace hX := Nat.lt_of_lt_of_le hX hk3.size; clear ho3 hk3))
  obtain ⟨A9, c9, hv9, -, -, hs9⟩ := HO3.out.form
  have HS9 := Lib.hid hs9
  have HB9 := Lib.hid HO3.out.below
  subst hv9
  clear hs9
  go_ret
  refine ⟨_, _, ret_len ?_, ?_, HB9.out⟩
  · simp
  · have := HS9.out
    simpa [List.append_assoc] using this

set_option maxHeartbeats 8000000 in
set_option maxRecDepth 100000 in
theorem refOne_65b (n : Nd) (p : Pl) (w : World) (hk : knd n.op ≠ 0) (hfk : knd n.op ≠ 2 ∧ knd n.op ≠ 7 ∧ knd n.op ≠ 8 ∧ knd n.op ≠ 9 ∧ n.op = 65) (hv0 : 0 ≤ n.v) (hv1 : n.v ≤ 4294967295) (hv2 : 2147483648 ≤ n.v) :
    Calls Tryz.prog 23 #[ndV n p] w (Told1 w (b8 n.op :: Leb.putS (n.v - 4294967296))) := by
  have hop := knd_in hk
  have hb8 := b8_nat hk
  have hop0 := hop.1
  have hop1 := hop.2
  have HK := Lib.hid (fun w => Kind_any n.op w)
  obtain ⟨kk, hkk⟩ : ∃ kk, kk = knd n.op := ⟨_, rfl⟩
  rw [← hkk] at HK hfk
  obtain ⟨x, hx⟩ : ∃ x, x = b8 n.op := ⟨_, rfl⟩
  rw [← hx] at hb8 ⊢
  have t_k2 : (kk == 2) = false := by simp; omega
  have t_k7 : (kk == 7) = false := by simp; omega
  have t_k8 : (kk == 8) = false := by simp; omega
  have t_k9 : (kk == 9) = false := by simp; omega
  have t_o65 : (n.op == 65) = true := by simp; omega
  have tv : decide (2147483648 ≤ n.v) = true := by simp; omega
  have hp : (Leb.putS (n.v - 4294967296)).length ≤ 10 := Leb.putS_len10 (by omega) (by omega)
  have HP := Lib.hid (fun w => refPutS (n.v + 18446744069414584320) (n.v - 4294967296) w (by omega) (by omega) (by unfold wrap64; omega))
  clear hx hop hkk hk hfk
  unfold Told1
  go_enter Tryz.func23, Tryz.ntmps23
  go_wp2_with (first
    | (go_at_call 34; (with_reducible refine (HK.out _).mono ?_); rintro e w1 ⟨rfl, hb1⟩; obtain ⟨hX2, t9, -, hbw⟩ := two_box hb1; have m0 : w1.cell? ⟨w.heap.size, 0, none⟩ = some (.int .i64 n.op) := t9 0; have m3 : w1.cell? ⟨w.heap.size, 3, none⟩ = some (.int .u64 n.v) := t9 3; have HO1 := Lib.hid ((OwB.lit w _ ((Below.refl _ _).alloc (Nat.le_refl _) _) n.op x hb8 (w.heap.size + 1) (by simp)).later hb1); have HvX : Hid ((Value.slice (some ⟨w.heap.size + 1, 0, none⟩) 1 1).ownBlock ≠ some w.heap.size) := Lib.hid (by simp [Value.ownBlock]); have hX : w.heap.size < w1.heap.size := (by omega); clear hb1 t9 hbw hX2)
    | (go_at_call 38; (with_reducible refine (HP.out _).mono ?_); rintro e w2 ⟨A2, c2, rfl, hs2, hb2, -⟩; replace m0 := (hb2.cell (p := ⟨w.heap.size, 0, none⟩) hX).trans m0; have HS2 := Lib.hid hs2; have HO2 := Lib.hid (HO1.out.later hb2); replace hX := Nat.lt_of_lt_of_le hX hb2.size; clear hs2 hb2)
    | (at_builtin; refine wpl_bytes rfl (.tmp 73) (.tmp 75) rfl (Leb.putS (n.v - 4294967296)) rfl HO2.out rfl HS2.out rfl (by simp only [List.length_append, List.length_cons, List.length_nil]; omega) ?_; intro v3 W3 ho3 hk3; replace m0 := hk3.cell' HvX.out m0; replace HvX := Lib.hid (hk3.own hX HvX.out); have HO3 := Lib.hid ho3; replace hX := Nat.lt_of_lt_of_le hX hk3.size; clear ho3 hk3))
  obtain ⟨A9, c9, hv9, -, -, hs9⟩ := HO3.out.form
  have HS9 := Lib.hid hs9
  have HB9 := Lib.hid HO3.out.below
  subst hv9
  clear hs9
  go_ret
  refine ⟨_, _, ret_len ?_, ?_, HB9.out⟩
  · simp
  · have := HS9.out
    simpa [List.append_assoc] using this

set_option maxHeartbeats 8000000 in
set_option maxRecDepth 100000 in
theorem refOne_66 (n : Nd) (p : Pl) (w : World) (hk : knd n.op ≠ 0) (hfk : knd n.op ≠ 2 ∧ knd n.op ≠ 7 ∧ knd n.op ≠ 8 ∧ knd n.op ≠ 9 ∧ n.op ≠ 65 ∧ n.op = 66) (hv0 : 0 ≤ n.v) (hv1 : n.v ≤ 18446744073709551615) :
    Calls Tryz.prog 23 #[ndV n p] w (Told1 w (b8 n.op :: Leb.putS (s64 n.v))) := by
  have hop := knd_in hk
  have hb8 := b8_nat hk
  have hop0 := hop.1
  have hop1 := hop.2
  have HK := Lib.hid (fun w => Kind_any n.op w)
  obtain ⟨kk, hkk⟩ : ∃ kk, kk = knd n.op := ⟨_, rfl⟩
  rw [← hkk] at HK hfk
  obtain ⟨x, hx⟩ : ∃ x, x = b8 n.op := ⟨_, rfl⟩
  rw [← hx] at hb8 ⊢
  have t_k2 : (kk == 2) = false := by simp; omega
  have t_k7 : (kk == 7) = false := by simp; omega
  have t_k8 : (kk == 8) = false := by simp; omega
  have t_k9 : (kk == 9) = false := by simp; omega
  have t_o65 : (n.op == 65) = false := by simp; omega
  have t_o66 : (n.op == 66) = true := by simp; omega
  have hp : (Leb.putS (s64 n.v)).length ≤ 10 := Leb.putS_len10 (by unfold s64; split <;> omega) (by unfold s64; split <;> omega)
  have HP := Lib.hid (fun w => refPutS n.v (s64 n.v) w (by omega) (by omega) (by unfold wrap64 s64; split <;> omega))
  clear hx hop hkk hk hfk
  unfold Told1
  go_enter Tryz.func23, Tryz.ntmps23
  go_wp2_with (first
    | (go_at_call 34; (with_reducible refine (HK.out _).mono ?_); rintro e w1 ⟨rfl, hb1⟩; obtain ⟨hX2, t9, -, hbw⟩ := two_box hb1; have m0 : w1.cell? ⟨w.heap.size, 0, none⟩ = some (.int .i64 n.op) := t9 0; have m3 : w1.cell? ⟨w.heap.size, 3, none⟩ = some (.int .u64 n.v) := t9 3; have HO1 := Lib.hid ((OwB.lit w _ ((Below.refl _ _).alloc (Nat.le_refl _) _) n.op x hb8 (w.heap.size + 1) (by simp)).later hb1); have HvX : Hid ((Value.slice (some ⟨w.heap.size + 1, 0, none⟩) 1 1).ownBlock ≠ some w.heap.size) := Lib.hid (by simp [Value.ownBlock]); have hX : w.heap.size < w1.heap.size := (by omega); clear hb1 t9 hbw hX2)
    | (go_at_call 38; (with_reducible refine (HP.out _).mono ?_); rintro e w2 ⟨A2, c2, rfl, hs2, hb2, -⟩; replace m0 := (hb2.cell (p := ⟨w.heap.size, 0, none⟩) hX).trans m0; have HS2 := Lib.hid hs2; have HO2 := Lib.hid (HO1.out.later hb2); replace hX := Nat.lt_of_lt_of_le hX hb2.size; clear hs2 hb2)
    | (at_builtin; refine wpl_bytes rfl (.tmp 81) (.tmp 84) rfl (Leb.putS (s64 n.v)) rfl HO2.out rfl HS2.out rfl (by simp only [List.length_append, List.length_cons, List.length_nil]; omega) ?_; intro v3 W3 ho3 hk3; replace m0 := hk3.cell' HvX.out m0; replace HvX := Lib.hid (hk3.own hX HvX.out); have HO3 := Lib.hid ho3; replace hX := Nat.lt_of_lt_of_le hX hk3.size; clear ho3 hk3))
  obtain ⟨A9, c9, hv9, -, -, hs9⟩ := HO3.out.form
  have HS9 := Lib.hid hs9
  have HB9 := Lib.hid HO3.out.below
  subst hv9
  clear hs9
  go_ret
  refine ⟨_, _, ret_len ?_, ?_, HB9.out⟩
  · simp
  · have := HS9.out
    simpa [List.append_assoc] using this

set_option maxHeartbeats 8000000 in
set_option maxRecDepth 100000 in
theorem refOne_blkE (n : Nd) (p : Pl) (w : World) (hk : knd n.op ≠ 0) (hfk : knd n.op = 2) (ht0 : 0 ≤ n.t) (ht2 : n.t ≤ 2) (hhe : n.he = true) (hAb : AllL w n.body p.Ab p.cb) (hAe : AllL w n.els p.Ae p.ce) (hl : (enc n.body).length + (enc n.els).length ≤ 60000000) :
    Calls Tryz.prog 23 #[ndV n p] w (Told1 w (b8 n.op :: (eRes n.t :: (enc n.body ++ 5 :: (enc n.els ++ [11]))))) := by
  have hop := knd_in hk
  have hb8 := b8_nat hk
  have hop0 := hop.1
  have hop1 := hop.2
  have HK := Lib.hid (fun w => Kind_any n.op w)
  obtain ⟨kk, hkk⟩ : ∃ kk, kk = knd n.op := ⟨_, rfl⟩
  rw [← hkk] at HK hfk
  obtain ⟨x, hx⟩ : ∃ x, x = b8 n.op := ⟨_, rfl⟩
  rw [← hx] at hb8 ⊢
  have t_k2 : (kk == 2) = true := by simp; omega
  have HR := Lib.hid (fun w => refResult_any n.t w ht0 ht2)
  obtain ⟨y, hy⟩ : ∃ y, y = eRes n.t := ⟨_, rfl⟩
  rw [← hy] at HR ⊢
  unfold AllL at hAb hAe
  have HAb := Lib.hid hAb
  have HAe := Lib.hid hAe
  clear hy hAb hAe
  clear hx hop hkk hk hfk
  unfold Told1
  go_enter Tryz.func23, Tryz.ntmps23
  go_wp2_with (first
    | (go_at_call 34; (with_reducible refine (HK.out _).mono ?_); rintro e w1 ⟨rfl, hb1⟩; obtain ⟨hX2, t9, -, hbw⟩ := two_box hb1; have m0 : w1.cell? ⟨w.heap.size, 0, none⟩ = some (.int .i64 n.op) := t9 0; have m4 : w1.cell? ⟨w.heap.size, 4, none⟩ = some (.int .i64 n.t) := t9 4; have m6 : w1.cell? ⟨w.heap.size, 6, none⟩ = some (.slice p.Ab (len n.body) p.cb) := t9 6; have m7 : w1.cell? ⟨w.heap.size, 7, none⟩ = some (.slice p.Ae (len n.els) p.ce) := t9 7; have m8 : w1.cell? ⟨w.heap.size, 8, none⟩ = some (.bool true) := t9 8; have HO1 := Lib.hid ((OwB.lit w _ ((Below.refl _ _).alloc (Nat.le_refl _) _) n.op x hb8 (w.heap.size + 1) (by simp)).later hb1); have HvX : Hid ((Value.slice (some ⟨w.heap.size + 1, 0, none⟩) 1 1).ownBlock ≠ some w.heap.size) := Lib.hid (by simp [Value.ownBlock]); have hX : w.heap.size < w1.heap.size := (by omega); clear hb1 t9 hbw hX2)
    | (go_at_call 36; (with_reducible refine (HR.out _).mono ?_); rintro e w2 ⟨rfl, rfl⟩)
    | (at_builtin; refine wpl_bytes rfl (.tmp 17) (.tmp 21) rfl [y] rfl (HO1.out.later ((Below.refl _ _).alloc (Nat.le_refl _) _)) rfl (Sl.newbyte _ _ _ rfl _ _ (by simp)) rfl (by simp only [List.length_append, List.length_cons, List.length_nil]; omega) ?_; intro v3 W3 ho3 hk3; replace m0 := hk3.cell' HvX.out ((World.cell?_alloc_lt _ _ _ hX).trans m0); replace m6 := hk3.cell' HvX.out ((World.cell?_alloc_lt _ _ _ hX).trans m6); replace m7 := hk3.cell' HvX.out ((World.cell?_alloc_lt _ _ _ hX).trans m7); replace m8 := hk3.cell' HvX.out ((World.cell?_alloc_lt _ _ _ hX).trans m8); replace HvX := Lib.hid (hk3.own (by simp; omega) HvX.out); have HO3 := Lib.hid ho3; replace hX := Nat.lt_of_lt_of_le hX (Nat.le_trans (by simp) hk3.size); clear ho3 hk3)
    | (go_at_call 12; (with_reducible refine (HAb.out _ HO3.out.below).mono ?_); rintro e w4 ⟨A4, c4, rfl, hs4, hb4⟩; replace m0 := (hb4.cell (p := ⟨w.heap.size, 0, none⟩) hX).trans m0; replace m7 := (hb4.cell (p := ⟨w.heap.size, 7, none⟩) hX).trans m7; replace m8 := (hb4.cell (p := ⟨w.heap.size, 8, none⟩) hX).trans m8; have HS4 := Lib.hid hs4; have HO4 := Lib.hid (HO3.out.later hb4); replace hX := Nat.lt_of_lt_of_le hX hb4.size; clear hs4 hb4)
    | (at_builtin; refine wpl_bytes rfl (.tmp 23) (.tmp 26) rfl (enc n.body) rfl HO4.out rfl HS4.out rfl (by simp only [List.length_append, List.length_cons, List.length_nil]; omega) ?_; intro v5 W5 ho5 hk5; replace m0 := hk5.cell' HvX.out m0; replace m7 := hk5.cell' HvX.out m7; replace m8 := hk5.cell' HvX.out m8; replace HvX := Lib.hid (hk5.own hX HvX.out); have HO5 := Lib.hid ho5; replace hX := Nat.lt_of_lt_of_le hX hk5.size; clear ho5 hk5)
    | (at_builtin; refine wpl_bytes rfl (.tmp 30) (.tmp 31) rfl [5] rfl (HO5.out.later ((Below.refl _ _).alloc (Nat.le_refl _) _)) rfl (Sl.newbyte _ _ _ rfl _ _ (by simp)) rfl (by simp only [List.length_append, List.length_cons, List.length_nil]; omega) ?_; intro v6 W6 ho6 hk6; replace m0 := hk6.cell' HvX.out ((World.cell?_alloc_lt _ _ _ hX).trans m0); replace m7 := hk6.cell' HvX.out ((World.cell?_alloc_lt _ _ _ hX).trans m7); replace HvX := Lib.hid (hk6.own (by simp; omega) HvX.out); have HO6 := Lib.hid ho6; replace hX := Nat.lt_of_lt_of_le hX (Nat.le_trans (by simp) hk6.size); clear ho6 hk6)
    | (go_at_call 12; (with_reducible refine (HAe.out _ HO6.out.below).mono ?_); rintro e w7 ⟨A7, c7, rfl, hs7, hb7⟩; replace m0 := (hb7.cell (p := ⟨w.heap.size, 0, none⟩) hX).trans m0; have HS7 := Lib.hid hs7; have HO7 := Lib.hid (HO6.out.later hb7); replace hX := Nat.lt_of_lt_of_le hX hb7.size; clear hs7 hb7)
    | (at_builtin; refine wpl_bytes rfl (.tmp 33) (.tmp 36) rfl (enc n.els) rfl HO7.out rfl HS7.out rfl (by simp only [List.length_append, List.length_cons, List.length_nil]; omega) ?_; intro v8 W8 ho8 hk8; replace m0 := hk8.cell' HvX.out m0; replace HvX := Lib.hid (hk8.own hX HvX.out); have HO8 := Lib.hid ho8; replace hX := Nat.lt_of_lt_of_le hX hk8.size; clear ho8 hk8)
    | (at_builtin; refine wpl_bytes rfl (.tmp 38) (.tmp 39) rfl [11] rfl (HO8.out.later ((Below.refl _ _).alloc (Nat.le_refl _) _)) rfl (Sl.newbyte _ _ _ rfl _ _ (by simp)) rfl (by simp only [List.length_append, List.length_cons, List.length_nil]; omega) ?_; intro v9 W9 ho9 hk9; replace m0 := hk9.cell' HvX.out ((World.cell?_alloc_lt _ _ _ hX).trans m0); replace HvX := Lib.hid (hk9.own (by simp; omega) HvX.out); have HO9 := Lib.hid ho9; replace hX := Nat.lt_of_lt_of_le hX (Nat.le_trans (by simp) hk9.size); clear ho9 hk9))
  obtain ⟨A9, c9, hv9, -, -, hs9⟩ := HO9.out.form
  have HS9 := Lib.hid hs9
  have HB9 := Lib.hid HO9.out.below
  subst hv9
  clear hs9
  go_ret
  refine ⟨_, _, ret_len ?_, ?_, HB9.out⟩
  · simp
  · have := HS9.out
    simpa [List.append_assoc] using this

set_option maxHeartbeats 8000000 in
set_option maxRecDepth 100000 in
theorem refOne_blk (n : Nd) (p : Pl) (w : World) (hk : knd n.op ≠ 0) (hfk : knd n.op = 2) (ht0 : 0 ≤ n.t) (ht2 : n.t ≤ 2) (hhe : n.he = false) (hAb : AllL w n.body p.Ab p.cb) (hAe : AllL w n.els p.Ae p.ce) (hl : (enc n.body).length + (enc n.els).length ≤ 60000000) :
    Calls Tryz.prog 23 #[ndV n p] w (Told1 w (b8 n.op :: (eRes n.t :: (enc n.body ++ [11])))) := by
  have hop := knd_in hk
  have hb8 := b8_nat hk
  have hop0 := hop.1
  have hop1 := hop.2
  have HK := Lib.hid (fun w => Kind_any n.op w)
  obtain ⟨kk, hkk⟩ : ∃ kk, kk = knd n.op := ⟨_, rfl⟩
  rw [← hkk] at HK hfk
  obtain ⟨x, hx⟩ : ∃ x, x = b8 n.op := ⟨_, rfl⟩
  rw [← hx] at hb8 ⊢
  have t_k2 : (kk == 2) = true := by simp; omega
  have HR := Lib.hid (fun w => refResult_any n.t w ht0 ht2)
  obtain ⟨y, hy⟩ : ∃ y, y = eRes n.t := ⟨_, rfl⟩
  rw [← hy] at HR ⊢
  unfold AllL at hAb hAe
  have HAb := Lib.hid hAb
  have HAe := Lib.hid hAe
  clear hy hAb hAe
  clear hx hop hkk hk hfk
  unfold Told1
  go_enter Tryz.func23, Tryz.ntmps23
  go_wp2_with (first
    | (go_at_call 34; (with_reducible refine (HK.out _).mono ?_); rintro e w1 ⟨rfl, hb1⟩; obtain ⟨hX2, t9, -, hbw⟩ := two_box hb1; have m0 : w1.cell? ⟨w.heap.size, 0, none⟩ = some (.int .i64 n.op) := t9 0; have m4 : w1.cell? ⟨w.heap.size, 4, none⟩ = some (.int .i64 n.t) := t9 4; have m6 : w1.cell? ⟨w.heap.size, 6, none⟩ = some (.slice p.Ab (len n.body) p.cb) := t9 6; have m7 : w1.cell? ⟨w.heap.size, 7, none⟩ = some (.slice p.Ae (len n.els) p.ce) := t9 7; have m8 : w1.cell? ⟨w.heap.size, 8, none⟩ = some (.bool false) := t9 8; have HO1 := Lib.hid ((OwB.lit w _ ((Below.refl _ _).alloc (Nat.le_refl _) _) n.op x hb8 (w.heap.size + 1) (by simp)).later hb1); have HvX : Hid ((Value.slice (some ⟨w.heap.size + 1, 0, none⟩) 1 1).ownBlock ≠ some w.heap.size) := Lib.hid (by simp [Value.ownBlock]); have hX : w.heap.size < w1.heap.size := (by omega); clear hb1 t9 hbw hX2)
    | (go_at_call 36; (with_reducible refine (HR.out _).mono ?_); rintro e w2 ⟨rfl, rfl⟩)
    | (at_builtin; refine wpl_bytes rfl (.tmp 17) (.tmp 21) rfl [y] rfl (HO1.out.later ((Below.refl _ _).alloc (Nat.le_refl _) _)) rfl (Sl.newbyte _ _ _ rfl _ _ (by simp)) rfl (by simp only [List.length_append, List.length_cons, List.length_nil]; omega) ?_; intro v3 W3 ho3 hk3; replace m0 := hk3.cell' HvX.out ((World.cell?_alloc_lt _ _ _ hX).trans m0); replace m6 := hk3.cell' HvX.out ((World.cell?_alloc_lt _ _ _ hX).trans m6); replace m7 := hk3.cell' HvX.out ((World.cell?_alloc_lt _ _ _ hX).trans m7); replace m8 := hk3.cell' HvX.out ((World.cell?_alloc_lt _ _ _ hX).trans m8); replace HvX := Lib.hid (hk3.own (by simp; omega) HvX.out); have HO3 := Lib.hid ho3; replace hX := Nat.lt_of_lt_of_le hX (Nat.le_trans (by simp) hk3.size); clear ho3 hk3)
    | (go_at_call 12; (with_reducible refine (HAb.out _ HO3.out.below).mono ?_); rintro e w4 ⟨A4, c4, rfl, hs4, hb4⟩; replace m0 := (hb4.cell (p := ⟨w.heap.size, 0, none⟩) hX).trans m0; replace m7 := (hb4.cell (p := ⟨w.heap.size, 7, none⟩) hX).trans m7; replace m8 := (hb4.cell (p := ⟨w.heap.size, 8, none⟩) hX).trans m8; have HS4 := Lib.hid hs4; have HO4 := Lib.hid (HO3.out.later hb4); replace hX := Nat.lt_of_lt_of_le hX hb4.size; clear hs4 hb4)
    | (at_builtin; refine wpl_bytes rfl (.tmp 23) (.tmp 26) rfl (enc n.body) rfl HO4.out rfl HS4.out rfl (by simp only [List.length_append, List.length_cons, List.length_nil]; omega) ?_; intro v5 W5 ho5 hk5; replace m0 := hk5.cell' HvX.out m0; replace m7 := hk5.cell' HvX.out m7; replace m8 := hk5.cell' HvX.out m8; replace HvX := Lib.hid (hk5.own hX HvX.out); have HO5 := Lib.hid ho5; replace hX := Nat.lt_of_lt_of_le hX hk5.size; clear ho5 hk5)
    | (at_builtin; refine wpl_bytes rfl (.tmp 38) (.tmp 39) rfl [11] rfl (HO5.out.later ((Below.refl _ _).alloc (Nat.le_refl _) _)) rfl (Sl.newbyte _ _ _ rfl _ _ (by simp)) rfl (by simp only [List.length_append, List.length_cons, List.length_nil]; omega) ?_; intro v9 W9 ho9 hk9; replace m0 := hk9.cell' HvX.out ((World.cell?_alloc_lt _ _ _ hX).trans m0); replace HvX := Lib.hid (hk9.own (by simp; omega) HvX.out); have HO9 := Lib.hid ho9; replace hX := Nat.lt_of_lt_of_le hX (Nat.le_trans (by simp) hk9.size); clear ho9 hk9))
  obtain ⟨A9, c9, hv9, -, -, hs9⟩ := HO9.out.form
  have HS9 := Lib.hid hs9
  have HB9 := Lib.hid HO9.out.below
  subst hv9
  clear hs9
  go_ret
  refine ⟨_, _, ret_len ?_, ?_, HB9.out⟩
  · simp
  · have := HS9.out
    simpa [List.append_assoc] using this
end Go.Proofs.YtbhniddgkdldlaaGreatDoor

/- Contract of the reference's writer of layer 6: grommetref06.one, of two numbers. -/
namespace Go.Proofs.YtbhniddgkdldlaaGreatDoor
open Go.RowKit Trx

theorem Sl.kept {w w' : World} {B : Nat} {A : Option Addr} {vs : List Value} {v v' : Value} (h : Sl w B A vs) (hk : Kp w v w' v') (hf : ∀ q, A = some q → v.ownBlock ≠ some q.block) : Sl w' B A vs := fun hn => by
  obtain ⟨b, off, e, hb, hc⟩ := h hn
  refine ⟨b, off, e, hb, fun i hi => ?_⟩
  have h1 := hc i hi
  rw [List.getElem?_eq_getElem hi] at h1 ⊢
  exact hk.cell' (hf _ e) h1

set_option maxHeartbeats 8000000 in
set_option maxRecDepth 100000 in
theorem refOne_two7 (n : Nd) (p : Pl) (w : World) (hk : knd n.op ≠ 0) (hfk : knd n.op ≠ 2 ∧ knd n.op = 7) (ha : 0 ≤ n.a ∧ n.a ≤ 4294967295) (hb : 0 ≤ n.b ∧ n.b ≤ 4294967295) :
    Calls Tryz.prog 23 #[ndV n p] w (Told1 w (b8 n.op :: (eN n.a ++ eN n.b))) := by
  have hop := knd_in hk
  have hb8 := b8_nat hk
  have hop0 := hop.1
  have hop1 := hop.2
  have HK := Lib.hid (fun w => Kind_any n.op w)
  obtain ⟨kk, hkk⟩ : ∃ kk, kk = knd n.op := ⟨_, rfl⟩
  rw [← hkk] at HK hfk
  obtain ⟨x, hx⟩ : ∃ x, x = b8 n.op := ⟨_, rfl⟩
  rw [← hx] at hb8 ⊢
  have t_k2 : (kk == 2) = false := by simp; omega
  have t_k7 : (kk == 7) = true := by simp; omega
  have ha0 := ha.1
  have ha1 := ha.2
  have h10 := eN_len n.a
  clear ha
  have hb0 := hb.1
  have hb1 := hb.2
  have h11 := eN_len n.b
  clear hb
  clear hx hop hkk hk hfk
  unfold Told1
  go_enter Tryz.func23, Tryz.ntmps23
  go_wp2_with (first
    | (go_at_call 34; (with_reducible refine (HK.out _).mono ?_); rintro e w1 ⟨rfl, hb1⟩; obtain ⟨hX2, t9, -, hbw⟩ := two_box hb1; have m0 : w1.cell? ⟨w.heap.size, 0, none⟩ = some (.int .i64 n.op) := t9 0; have m1 : w1.cell? ⟨w.heap.size, 1, none⟩ = some (.int .i64 n.a) := t9 1; have m2 : w1.cell? ⟨w.heap.size, 2, none⟩ = some (.int .i64 n.b) := t9 2; have HO1 := Lib.hid ((OwB.lit w _ ((Below.refl _ _).alloc (Nat.le_refl _) _) n.op x hb8 (w.heap.size + 1) (by simp)).later hb1); have HvX : Hid ((Value.slice (some ⟨w.heap.size + 1, 0, none⟩) 1 1).ownBlock ≠ some w.heap.size) := Lib.hid (by simp [Value.ownBlock]); have hX : w.heap.size < w1.heap.size := (by omega); clear hb1 t9 hbw hX2))
  refine wp_region_held_drew (S := fun w' => w'.cell? ⟨w.heap.size, 1, none⟩ = some (.int .i64 n.a) ∧ w'.cell? ⟨w.heap.size, 2, none⟩ = some (.int .i64 n.b)) (by kernel_rfl) ⟨m1, m2⟩ (fun hHeld => ?_)
  have HO2 := Lib.hid (HO1.out.drewN 1)
  obtain ⟨W2, hW2⟩ : ∃ W2 : World, W2 = w1.drew := ⟨_, rfl⟩
  have e1 : w1.drewN 1 = W2 := by rw [hW2]; rfl
  rw [e1] at HO2
  have d1 : W2.cell? ⟨w.heap.size, 1, none⟩ = some (.int .i64 n.a) := by rw [hW2]; exact m1
  have d2 : W2.cell? ⟨w.heap.size, 2, none⟩ = some (.int .i64 n.b) := by rw [hW2]; exact m2
  have hX2 : w.heap.size < W2.heap.size := by rw [hW2]; exact hX
  rw [← hW2] at hHeld ⊢
  clear hW2 e1 m0 m1 m2 hX
  refine region_take 0 (some 48) (v := ?_) rfl rfl (by kernel_rfl) (by kernel_rfl) (by kernel_rfl) (fun _ _ _ h => h) (by rfl) ?_ (by assumption) ?_
  rotate_left
  · (intro w hSw; (try dsimp only at hSw); go_simp; try with_reducible rfl)
  try simp only [Act.put, List.setIfInBounds_toArray, List.set_cons_zero, List.set_cons_succ]
  refine region_take 1 (some 49) (v := ?_) rfl rfl (by kernel_rfl) (by kernel_rfl) (by kernel_rfl) (fun _ _ _ h => h) (by rfl) ?_ (by assumption) ?_
  rotate_left
  · (intro w hSw; (try dsimp only at hSw); go_simp; try with_reducible rfl)
  try simp only [Act.put, List.setIfInBounds_toArray, List.set_cons_zero, List.set_cons_succ]
  refine region_take 2 (some 50) (v := ?_) rfl rfl (by kernel_rfl) (by kernel_rfl) (by kernel_rfl) (fun _ _ _ h => h) (by rfl) ?_ (by assumption) ?_
  rotate_left
  · (intro w hSw; (try dsimp only at hSw); go_simp; try with_reducible rfl)
  try simp only [Act.put, List.setIfInBounds_toArray, List.set_cons_zero, List.set_cons_succ]
  refine region_take 5 (some 53) (v := ?_) rfl rfl (by kernel_rfl) (by kernel_rfl) (by kernel_rfl) (fun _ _ _ h => h) (by rfl) ?_ (by assumption) ?_
  rotate_left
  · (intro w hSw; (try dsimp only at hSw); go_simp; try with_reducible rfl)
  try simp only [Act.put, List.setIfInBounds_toArray, List.set_cons_zero, List.set_cons_succ]
  refine region_take 6 (some 54) (v := ?_) rfl rfl (by kernel_rfl) (by kernel_rfl) (by kernel_rfl) (fun _ _ _ h => h) (by rfl) ?_ (by assumption) ?_
  rotate_left
  · (intro w hSw; (try dsimp only at hSw); go_simp; try with_reducible rfl)
  try simp only [Act.put, List.setIfInBounds_toArray, List.set_cons_zero, List.set_cons_succ]
  have HNa := Lib.hid (fun w => refNum_any n.a w (by omega) (by omega))
  have HNb := Lib.hid (fun w => refNum_any n.b w (by omega) (by omega))
  refine wpAnyH_ready (rs := [3]) (by kernel_rfl) (by simp) ?_
  refine AllReadyH.cons rfl (fun K hK => ?_) AllReadyH.nil
  go_simp
  refine (HNa.out _).mono ?_
  rintro e W3 ⟨A3, c3, rfl, hs3, hb3, -⟩
  have f1 := (hb3.cell (p := ⟨w.heap.size, 1, none⟩) hX2).trans d1
  have f2 := (hb3.cell (p := ⟨w.heap.size, 2, none⟩) hX2).trans d2
  have hX3 := Nat.lt_of_lt_of_le hX2 hb3.size
  have HS3 := Lib.hid hs3
  have HO3 := Lib.hid (HO2.out.later hb3)
  clear hs3 hb3
  go_wp2_with fail
  refine hK.out _ _ ⟨f1, f2⟩ (fun hHeld => ?_)
  clear hK K
  try simp only [Act.put, List.setIfInBounds_toArray, List.set_cons_zero, List.set_cons_succ]
  refine wpAnyH_ready (rs := [4]) (by kernel_rfl) (by simp) ?_
  refine AllReadyH.cons rfl (fun K hK => ?_) AllReadyH.nil
  refine wanted_yes' (by rfl) ?_
  refine op_bytes (.tmp 48) (.tmp 51) rfl (eN n.a) rfl HO3.out rfl HS3.out rfl (by simp only [List.length_cons, List.length_nil]; omega) ?_
  intro v4 W4 ho4 hk4
  have g1 := hk4.cell' HvX.out f1
  have g2 := hk4.cell' HvX.out f2
  have HvX4 := Lib.hid (hk4.own hX3 HvX.out)
  have hX4 := Nat.lt_of_lt_of_le hX3 hk4.size
  have HO4 := Lib.hid ho4
  clear ho4 hk4
  refine hK.out _ _ ⟨g1, g2⟩ (fun hHeld => ?_)
  clear hK K
  try simp only [Act.put, List.setIfInBounds_toArray, List.set_cons_zero, List.set_cons_succ]
  refine wpAnyH_ready (rs := [7]) (by kernel_rfl) (by simp) ?_
  refine AllReadyH.cons rfl (fun K hK => ?_) AllReadyH.nil
  go_simp
  refine (HNb.out _).mono ?_
  rintro e W5 ⟨A5, c5, rfl, hs5, hb5, -⟩
  have k1 := (hb5.cell (p := ⟨w.heap.size, 1, none⟩) hX4).trans g1
  have k2 := (hb5.cell (p := ⟨w.heap.size, 2, none⟩) hX4).trans g2
  have HS5 := Lib.hid hs5
  have HO5 := Lib.hid (HO4.out.later hb5)
  clear hs5 hb5
  go_wp2_with fail
  refine hK.out _ _ ⟨k1, k2⟩ (fun hHeld => ?_)
  clear hK K
  try simp only [Act.put, List.setIfInBounds_toArray, List.set_cons_zero, List.set_cons_succ]
  refine wpAnyH_ready (rs := [8]) (by kernel_rfl) (by simp) ?_
  refine AllReadyH.cons rfl (fun K hK => ?_) AllReadyH.nil
  refine wanted_yes' (by rfl) ?_
  refine op_bytes (.tmp 52) (.tmp 55) rfl (eN n.b) rfl HO5.out rfl HS5.out rfl (by simp only [List.length_append, List.length_cons, List.length_nil]; omega) ?_
  intro v6 W6 ho6 hk6
  have j1 := hk6.cell' HvX4.out k1
  have j2 := hk6.cell' HvX4.out k2
  have HO6 := Lib.hid ho6
  clear ho6 hk6
  refine hK.out _ _ ⟨j1, j2⟩ (fun hHeld => ?_)
  clear hK K
  try simp only [Act.put, List.setIfInBounds_toArray, List.set_cons_zero, List.set_cons_succ]
  refine region_take 9 (some 3) (v := ?_) rfl rfl (by kernel_rfl) (by kernel_rfl) (by kernel_rfl) (fun _ _ _ h => h) (by rfl) ?_ (by assumption) ?_
  rotate_left
  · (intro w hSw; (try dsimp only at hSw); go_simp; try with_reducible rfl)
  try simp only [Act.put, List.setIfInBounds_toArray, List.set_cons_zero, List.set_cons_succ]
  refine wpAnyH_done (by kernel_rfl) ?_ _
  obtain ⟨A9, c9, hv9, -, -, hs9⟩ := HO6.out.form
  have HS9 := Lib.hid hs9
  have HB9 := Lib.hid HO6.out.below
  subst hv9
  clear hs9
  go_wp2_with fail
  go_ret
  refine ⟨_, _, ret_len ?_, ?_, HB9.out⟩
  · simp
  · have := HS9.out
    simpa [List.append_assoc] using this

set_option maxHeartbeats 8000000 in
set_option maxRecDepth 100000 in
theorem refOne_two8 (n : Nd) (p : Pl) (w : World) (hk : knd n.op ≠ 0) (hfk : knd n.op ≠ 2 ∧ knd n.op ≠ 7 ∧ knd n.op = 8) (ha : 0 ≤ n.a ∧ n.a ≤ 4294967295) (hb : 0 ≤ n.b ∧ n.b ≤ 4294967295) :
    Calls Tryz.prog 23 #[ndV n p] w (Told1 w (b8 n.op :: (eN n.a ++ eN n.b))) := by
  have hop := knd_in hk
  have hb8 := b8_nat hk
  have hop0 := hop.1
  have hop1 := hop.2
  have HK := Lib.hid (fun w => Kind_any n.op w)
  obtain ⟨kk, hkk⟩ : ∃ kk, kk = knd n.op := ⟨_, rfl⟩
  rw [← hkk] at HK hfk
  obtain ⟨x, hx⟩ : ∃ x, x = b8 n.op := ⟨_, rfl⟩
  rw [← hx] at hb8 ⊢
  have t_k2 : (kk == 2) = false := by simp; omega
  have t_k7 : (kk == 7) = false := by simp; omega
  have t_k8 : (kk == 8) = true := by simp; omega
  have ha0 := ha.1
  have ha1 := ha.2
  have h10 := eN_len n.a
  clear ha
  have hb0 := hb.1
  have hb1 := hb.2
  have h11 := eN_len n.b
  clear hb
  clear hx hop hkk hk hfk
  unfold Told1
  go_enter Tryz.func23, Tryz.ntmps23
  go_wp2_with (first
    | (go_at_call 34; (with_reducible refine (HK.out _).mono ?_); rintro e w1 ⟨rfl, hb1⟩; obtain ⟨hX2, t9, -, hbw⟩ := two_box hb1; have m0 : w1.cell? ⟨w.heap.size, 0, none⟩ = some (.int .i64 n.op) := t9 0; have m1 : w1.cell? ⟨w.heap.size, 1, none⟩ = some (.int .i64 n.a) := t9 1; have m2 : w1.cell? ⟨w.heap.size, 2, none⟩ = some (.int .i64 n.b) := t9 2; have HO1 := Lib.hid ((OwB.lit w _ ((Below.refl _ _).alloc (Nat.le_refl _) _) n.op x hb8 (w.heap.size + 1) (by simp)).later hb1); have HvX : Hid ((Value.slice (some ⟨w.heap.size + 1, 0, none⟩) 1 1).ownBlock ≠ some w.heap.size) := Lib.hid (by simp [Value.ownBlock]); have hX : w.heap.size < w1.heap.size := (by omega); clear hb1 t9 hbw hX2))
  refine wp_region_held_drew (S := fun w' => w'.cell? ⟨w.heap.size, 1, none⟩ = some (.int .i64 n.a) ∧ w'.cell? ⟨w.heap.size, 2, none⟩ = some (.int .i64 n.b)) (by kernel_rfl) ⟨m1, m2⟩ (fun hHeld => ?_)
  have HO2 := Lib.hid (HO1.out.drewN 1)
  obtain ⟨W2, hW2⟩ : ∃ W2 : World, W2 = w1.drew := ⟨_, rfl⟩
  have e1 : w1.drewN 1 = W2 := by rw [hW2]; rfl
  rw [e1] at HO2
  have d1 : W2.cell? ⟨w.heap.size, 1, none⟩ = some (.int .i64 n.a) := by rw [hW2]; exact m1
  have d2 : W2.cell? ⟨w.heap.size, 2, none⟩ = some (.int .i64 n.b) := by rw [hW2]; exact m2
  have hX2 : w.heap.size < W2.heap.size := by rw [hW2]; exact hX
  rw [← hW2] at hHeld ⊢
  clear hW2 e1 m0 m1 m2 hX
  refine region_take 0 (some 48) (v := ?_) rfl rfl (by kernel_rfl) (by kernel_rfl) (by kernel_rfl) (fun _ _ _ h => h) (by rfl) ?_ (by assumption) ?_
  rotate_left
  · (intro w hSw; (try dsimp only at hSw); go_simp; try with_reducible rfl)
  try simp only [Act.put, List.setIfInBounds_toArray, List.set_cons_zero, List.set_cons_succ]
  refine region_take 1 (some 49) (v := ?_) rfl rfl (by kernel_rfl) (by kernel_rfl) (by kernel_rfl) (fun _ _ _ h => h) (by rfl) ?_ (by assumption) ?_
  rotate_left
  · (intro w hSw; (try dsimp only at hSw); go_simp; try with_reducible rfl)
  try simp only [Act.put, List.setIfInBounds_toArray, List.set_cons_zero, List.set_cons_succ]
  refine region_take 2 (some 50) (v := ?_) rfl rfl (by kernel_rfl) (by kernel_rfl) (by kernel_rfl) (fun _ _ _ h => h) (by rfl) ?_ (by assumption) ?_
  rotate_left
  · (intro w hSw; (try dsimp only at hSw); go_simp; try with_reducible rfl)
  try simp only [Act.put, List.setIfInBounds_toArray, List.set_cons_zero, List.set_cons_succ]
  refine region_take 5 (some 53) (v := ?_) rfl rfl (by kernel_rfl) (by kernel_rfl) (by kernel_rfl) (fun _ _ _ h => h) (by rfl) ?_ (by assumption) ?_
  rotate_left
  · (intro w hSw; (try dsimp only at hSw); go_simp; try with_reducible rfl)
  try simp only [Act.put, List.setIfInBounds_toArray, List.set_cons_zero, List.set_cons_succ]
  refine region_take 6 (some 54) (v := ?_) rfl rfl (by kernel_rfl) (by kernel_rfl) (by kernel_rfl) (fun _ _ _ h => h) (by rfl) ?_ (by assumption) ?_
  rotate_left
  · (intro w hSw; (try dsimp only at hSw); go_simp; try with_reducible rfl)
  try simp only [Act.put, List.setIfInBounds_toArray, List.set_cons_zero, List.set_cons_succ]
  have HNa := Lib.hid (fun w => refNum_any n.a w (by omega) (by omega))
  have HNb := Lib.hid (fun w => refNum_any n.b w (by omega) (by omega))
  refine wpAnyH_ready (rs := [3]) (by kernel_rfl) (by simp) ?_
  refine AllReadyH.cons rfl (fun K hK => ?_) AllReadyH.nil
  go_simp
  refine (HNa.out _).mono ?_
  rintro e W3 ⟨A3, c3, rfl, hs3, hb3, -⟩
  have f1 := (hb3.cell (p := ⟨w.heap.size, 1, none⟩) hX2).trans d1
  have f2 := (hb3.cell (p := ⟨w.heap.size, 2, none⟩) hX2).trans d2
  have hX3 := Nat.lt_of_lt_of_le hX2 hb3.size
  have HS3 := Lib.hid hs3
  have HO3 := Lib.hid (HO2.out.later hb3)
  clear hs3 hb3
  go_wp2_with fail
  refine hK.out _ _ ⟨f1, f2⟩ (fun hHeld => ?_)
  clear hK K
  try simp only [Act.put, List.setIfInBounds_toArray, List.set_cons_zero, List.set_cons_succ]
  refine wpAnyH_ready (rs := [4]) (by kernel_rfl) (by simp) ?_
  refine AllReadyH.cons rfl (fun K hK => ?_) AllReadyH.nil
  refine wanted_yes' (by rfl) ?_
  refine op_bytes (.tmp 48) (.tmp 51) rfl (eN n.a) rfl HO3.out rfl HS3.out rfl (by simp only [List.length_cons, List.length_nil]; omega) ?_
  intro v4 W4 ho4 hk4
  have g1 := hk4.cell' HvX.out f1
  have g2 := hk4.cell' HvX.out f2
  have HvX4 := Lib.hid (hk4.own hX3 HvX.out)
  have hX4 := Nat.lt_of_lt_of_le hX3 hk4.size
  have HO4 := Lib.hid ho4
  clear ho4 hk4
  refine hK.out _ _ ⟨g1, g2⟩ (fun hHeld => ?_)
  clear hK K
  try simp only [Act.put, List.setIfInBounds_toArray, List.set_cons_zero, List.set_cons_succ]
  refine wpAnyH_ready (rs := [7]) (by kernel_rfl) (by simp) ?_
  refine AllReadyH.cons rfl (fun K hK => ?_) AllReadyH.nil
  go_simp
  refine (HNb.out _).mono ?_
  rintro e W5 ⟨A5, c5, rfl, hs5, hb5, -⟩
  have k1 := (hb5.cell (p := ⟨w.heap.size, 1, none⟩) hX4).trans g1
  have k2 := (hb5.cell (p := ⟨w.heap.size, 2, none⟩) hX4).trans g2
  have HS5 := Lib.hid hs5
  have HO5 := Lib.hid (HO4.out.later hb5)
  clear hs5 hb5
  go_wp2_with fail
  refine hK.out _ _ ⟨k1, k2⟩ (fun hHeld => ?_)
  clear hK K
  try simp only [Act.put, List.setIfInBounds_toArray, List.set_cons_zero, List.set_cons_succ]
  refine wpAnyH_ready (rs := [8]) (by kernel_rfl) (by simp) ?_
  refine AllReadyH.cons rfl (fun K hK => ?_) AllReadyH.nil
  refine wanted_yes' (by rfl) ?_
  refine op_bytes (.tmp 52) (.tmp 55) rfl (eN n.b) rfl HO5.out rfl HS5.out rfl (by simp only [List.length_append, List.length_cons, List.length_nil]; omega) ?_
  intro v6 W6 ho6 hk6
  have j1 := hk6.cell' HvX4.out k1
  have j2 := hk6.cell' HvX4.out k2
  have HO6 := Lib.hid ho6
  clear ho6 hk6
  refine hK.out _ _ ⟨j1, j2⟩ (fun hHeld => ?_)
  clear hK K
  try simp only [Act.put, List.setIfInBounds_toArray, List.set_cons_zero, List.set_cons_succ]
  refine region_take 9 (some 3) (v := ?_) rfl rfl (by kernel_rfl) (by kernel_rfl) (by kernel_rfl) (fun _ _ _ h => h) (by rfl) ?_ (by assumption) ?_
  rotate_left
  · (intro w hSw; (try dsimp only at hSw); go_simp; try with_reducible rfl)
  try simp only [Act.put, List.setIfInBounds_toArray, List.set_cons_zero, List.set_cons_succ]
  refine wpAnyH_done (by kernel_rfl) ?_ _
  obtain ⟨A9, c9, hv9, -, -, hs9⟩ := HO6.out.form
  have HS9 := Lib.hid hs9
  have HB9 := Lib.hid HO6.out.below
  subst hv9
  clear hs9
  go_wp2_with fail
  go_ret
  refine ⟨_, _, ret_len ?_, ?_, HB9.out⟩
  · simp
  · have := HS9.out
    simpa [List.append_assoc] using this
end Go.Proofs.YtbhniddgkdldlaaGreatDoor

/- Contracts of the reference's writer of layer 6: grommetref06.one, of labels; one and All. -/
namespace Go.Proofs.YtbhniddgkdldlaaGreatDoor
open Go.RowKit Trx

def LbR (w : World) (n : Nd) (p : Pl) (bs : List UInt8) (y i : Value) (wr : World) : Prop :=
  ∃ j : Nat, j ≤ n.L.length ∧ i = .int .i64 j ∧ OwB w wr y (bs ++ (n.L.take j).flatMap eN) ∧ y.ownBlock ≠ some w.heap.size ∧ wr.cell? ⟨w.heap.size, 0, none⟩ = some (.int .i64 n.op) ∧ wr.cell? ⟨w.heap.size, 5, none⟩ = some (.slice p.AL n.L.length p.cL)

set_option maxHeartbeats 8000000 in
set_option maxRecDepth 100000 in
theorem refOne_14 (n : Nd) (p : Pl) (w : World) (hk : knd n.op ≠ 0) (hfk : knd n.op ≠ 2 ∧ knd n.op ≠ 7 ∧ knd n.op ≠ 8 ∧ knd n.op ≠ 9 ∧ n.op ≠ 65 ∧ n.op ≠ 66 ∧ n.op = 14) (hne : n.L ≠ []) (hn : n.L.all num32 = true) (hL : Sl w w.heap.size p.AL (n64s n.L)) (hl : 10 * n.L.length ≤ 60000000) :
    Calls Tryz.prog 23 #[ndV n p] w (Told1 w (b8 n.op :: (eN ((n.L.length : Int) - 1) ++ n.L.flatMap eN))) := by
  have hop := knd_in hk
  have hb8 := b8_nat hk
  have hop0 := hop.1
  have hop1 := hop.2
  have HK := Lib.hid (fun w => Kind_any n.op w)
  obtain ⟨kk, hkk⟩ : ∃ kk, kk = knd n.op := ⟨_, rfl⟩
  rw [← hkk] at HK hfk
  obtain ⟨x, hx⟩ : ∃ x, x = b8 n.op := ⟨_, rfl⟩
  rw [← hx] at hb8 ⊢
  have t_k2 : (kk == 2) = false := by simp; omega
  have t_k7 : (kk == 7) = false := by simp; omega
  have t_k8 : (kk == 8) = false := by simp; omega
  have t_k9 : (kk == 9) = false := by simp; omega
  have t_o65 : (n.op == 65) = false := by simp; omega
  have t_o66 : (n.op == 66) = false := by simp; omega
  have t_o14 : (n.op == 14) = true := by simp; omega
  have HL := Lib.hid hL
  have HN := Lib.hid hn
  have h10 := eN_len ((n.L.length : Int) - 1)
  have hpos : 0 < n.L.length := List.length_pos_iff.2 hne
  clear hL hn hne
  clear hx hop hkk hk hfk
  unfold Told1
  go_enter Tryz.func23, Tryz.ntmps23
  go_wp2_with (first
    | (go_at_call 34; (with_reducible refine (HK.out _).mono ?_); rintro e w1 ⟨rfl, hb1⟩; obtain ⟨hX2, t9, -, hbw⟩ := two_box hb1; have m0 : w1.cell? ⟨w.heap.size, 0, none⟩ = some (.int .i64 n.op) := t9 0; have m5 : w1.cell? ⟨w.heap.size, 5, none⟩ = some (.slice p.AL n.L.length p.cL) := t9 5; have HO1 := Lib.hid ((OwB.lit w _ ((Below.refl _ _).alloc (Nat.le_refl _) _) n.op x hb8 (w.heap.size + 1) (by simp)).later hb1); have HvX : Hid ((Value.slice (some ⟨w.heap.size + 1, 0, none⟩) 1 1).ownBlock ≠ some w.heap.size) := Lib.hid (by simp [Value.ownBlock]); have hX : w.heap.size < w1.heap.size := (by omega); clear hb1 t9 hbw hX2)
    | (go_at_call 37; (with_reducible refine (refNum_any ((n.L.length : Int) - 1) _ (by omega) (by omega)).mono ?_); rintro e w2 ⟨A2, c2, rfl, hs2, hb2, -⟩; replace m0 := (hb2.cell (p := ⟨w.heap.size, 0, none⟩) hX).trans m0; replace m5 := (hb2.cell (p := ⟨w.heap.size, 5, none⟩) hX).trans m5; have HS2 := Lib.hid hs2; have HO2 := Lib.hid (HO1.out.later hb2); replace hX := Nat.lt_of_lt_of_le hX hb2.size; clear hs2 hb2)
    | (at_builtin; refine wpl_bytes rfl (.tmp 90) (.tmp 95) rfl (eN ((n.L.length : Int) - 1)) rfl HO2.out rfl HS2.out rfl (by simp only [List.length_append, List.length_cons, List.length_nil]; omega) ?_; intro v3 W3 ho3 hk3; replace m0 := hk3.cell' HvX.out m0; replace m5 := hk3.cell' HvX.out m5; replace HvX := Lib.hid (hk3.own hX HvX.out); have HO3 := Lib.hid ho3; replace hX := Nat.lt_of_lt_of_le hX hk3.size; clear ho3 hk3))
  go_loopw [3, 6] (fun y i wr => LbR w n p (x :: eN ((n.L.length : Int) - 1)) y i wr) (fun _ i _ => n.L.length - (intOf i).toNat)
  case atStart => exact ⟨0, Nat.zero_le _, rfl, by simpa using HO3.out, HvX.out, m0, m5⟩
  case round =>
    obtain ⟨j, hj, rfl, hoj, hvj, m0', m5'⟩ := hrel
    have HOj := Lib.hid hoj
    have HvXj := Lib.hid hvj
    have hbel := hoj.below
    have hXj : w.heap.size < wr.heap.size := World.block_lt_of_cell? _ _ m5'
    clear m0 m5 hX
    by_cases hlt : j < n.L.length
    · obtain ⟨b, o, hAL, hbl, hc⟩ := HL.out (by intro e; have := congrArg List.length e; simp at this; rw [this] at hlt; simp at hlt)
      have q := (hbel.cell (p := ⟨b, o + j, none⟩) hbl).trans (hc j (by simpa using hlt))
      have hq : (n64s n.L)[j]? = some (.int .i64 n.L[j]) := by simp [n64s, hlt]
      rw [hq] at q
      have hb' := Nat.lt_of_lt_of_le hbl hbel.size
      have hnj := (num32_iff _).1 (List.all_eq_true.1 HN.out n.L[j] (List.getElem_mem hlt))
      have hfl := flat_len (n.L.take j)
      have htl : (n.L.take j).length ≤ j := List.length_take_le _ _
      have hlen : (x :: eN ((n.L.length : Int) - 1) ++ (n.L.take j).flatMap eN).length ≤ 100000000 := by simp only [List.length_append, List.length_cons]; omega
      have HLn := Lib.hid hlen
      have n0 := hnj.1
      have n1 : n.L[j] < 4611686018427387904 := Int.lt_of_le_of_lt hnj.2 (by decide)
      have HT : Hid (n.L.take (j + 1) = n.L.take j ++ [n.L[j]]) := Lib.hid (by rw [List.take_add_one]; simp [hlt])
      obtain ⟨z, hz⟩ : ∃ z, z = n.L[j] := ⟨_, rfl⟩
      rw [← hz] at q n0 n1 HT
      have h10z := eN_len z
      rw [hAL] at m5'
      have HAL := Lib.hid hAL
      clear hAL hz hnj hoj hvj hbel hc hfl htl hlen hq
      go_wp2_with (first
        | (go_at_call 37; (with_reducible refine (refNum_any z _ (by omega) (by omega)).mono ?_); rintro e w5 ⟨A5, c5, rfl, hs5, hb5, -⟩; have k0 := (hb5.cell (p := ⟨w.heap.size, 0, none⟩) hXj).trans m0'; have k5 := (hb5.cell (p := ⟨w.heap.size, 5, none⟩) hXj).trans m5'; have HS5 := Lib.hid hs5; have HO5 := Lib.hid (HOj.out.later hb5); have hX5 := Nat.lt_of_lt_of_le hXj hb5.size; clear hs5 hb5)
        | (at_builtin; refine wpl_bytes rfl (.tmp 104) (.tmp 110) rfl (eN z) rfl HO5.out rfl HS5.out rfl (by have := HLn.out; omega) ?_; intro v6 w6 ho6 hk6; have j0 := hk6.cell' HvXj.out k0; have j5 := hk6.cell' HvXj.out k5; have HvX6 := Lib.hid (hk6.own hX5 HvXj.out); have HO6 := Lib.hid ho6; clear ho6 hk6))
      go_roundw
      case rel =>
        have hfin : LbR w n p (x :: eN ((n.L.length : Int) - 1)) v6 (.int .i64 ((j : Int) + 1)) w6 := ⟨j + 1, by omega, by simp, by rw [HT.out, List.flatMap_append, ← List.append_assoc]; simpa using HO6.out, HvX6.out, j0, by rw [HAL.out]; exact j5⟩
        first | exact hfin | ((repeat apply Exists.intro); exact ⟨hfin, rfl⟩)
      case measure => simp [intOf]; omega
    · have hT : n.L.take j = n.L := List.take_of_length_le (by omega)
      rw [hT] at HOj
      clear hoj hvj hbel
      obtain ⟨A9, c9, hv9, -, -, hs9⟩ := HOj.out.form
      have HS9 := Lib.hid hs9
      have HB9 := Lib.hid HOj.out.below
      subst hv9
      clear hs9
      go_wp2_with fail
      go_ret
      refine ⟨_, _, ret_len ?_, ?_, HB9.out⟩
      · simp
      · have := HS9.out
        simpa [List.append_assoc] using this

theorem refOne_any (n : Nd) (p : Pl) (w : World) (hok : NdOk w w.heap.size n p) (hfit : fit n.op n.a n.b n.v n.t n.L (isNil n.body) (isNil n.els) n.he = true)
    (hB : AllL w n.body p.Ab p.cb) (hE : AllL w n.els p.Ae p.ce) (hl : 10 * n.L.length + (enc n.body).length + (enc n.els).length ≤ 60000000) :
    Calls Tryz.prog 23 #[ndV n p] w (Told1 w (b8 n.op :: eB n.op n.a n.b n.v n.t n.L (enc n.body) (enc n.els) n.he)) := by
  obtain ⟨h0, h1, h2, h3, h4, h5, h6, h7, h8, h9, h10, h11, h12, h13⟩ := fit_facts hfit
  have ha := (num32_iff _).1 h9
  have hb := (num32_iff _).1 h10
  have hv := hok.num.v
  unfold inU at hv
  unfold eB eP
  by_cases c0 : knd n.op = 2
  · rw [if_pos c0]
    cases hhe : n.he with
    | true =>
      have := refOne_blkE n p w h0 c0 h11.1 h11.2 hhe hB hE (by omega)
      simpa using this
    | false =>
      have := refOne_blk n p w h0 c0 h11.1 h11.2 hhe hB hE (by omega)
      simpa using this
  rw [if_neg c0]
  by_cases c1 : knd n.op = 7 ∨ knd n.op = 8
  · rw [if_pos c1]
    by_cases c17 : knd n.op = 7
    · exact refOne_two7 n p w h0 ⟨c0, c17⟩ ha hb
    · exact refOne_two8 n p w h0 ⟨c0, c17, by omega⟩ ha hb
  rw [if_neg c1]
  by_cases c2 : knd n.op = 9
  · rw [if_pos c2]
    exact refOne_zero n p w h0 ⟨c0, by omega, by omega, c2⟩
  rw [if_neg c2]
  by_cases c3 : n.op = 65
  · rw [if_pos c3]
    have := h12 c3
    unfold s32
    by_cases hv2 : 2147483648 ≤ n.v
    · rw [if_pos hv2]
      exact refOne_65b n p w h0 ⟨c0, by omega, by omega, c2, c3⟩ hv.1 this hv2
    · rw [if_neg hv2]
      exact refOne_65a n p w h0 ⟨c0, by omega, by omega, c2, c3⟩ hv.1 this (by omega)
  rw [if_neg c3]
  by_cases c4 : n.op = 66
  · rw [if_pos c4]
    exact refOne_66 n p w h0 ⟨c0, by omega, by omega, c2, c3, c4⟩ hv.1 hv.2
  rw [if_neg c4]
  by_cases c5 : n.op = 14
  · rw [if_pos c5]
    exact refOne_14 n p w h0 ⟨c0, by omega, by omega, c2, c3, c4, c5⟩ (h6 c5) h13 hok.num.sL (by omega)
  rw [if_neg c5]
  by_cases c6 : n.op = 17
  · rw [if_pos c6]
    exact refOne_17 n p w h0 ⟨c0, by omega, by omega, c2, c3, c4, c5, c6⟩ ha
  rw [if_neg c6]
  by_cases c7 : knd n.op = 4 ∨ knd n.op = 6 ∨ n.op = 12 ∨ n.op = 13
  · rw [if_pos c7]
    by_cases d4 : knd n.op = 4
    · exact refOne_n4 n p w h0 ⟨c0, by omega, by omega, c2, c3, c4, c5, c6, d4⟩ ha
    by_cases d6 : knd n.op = 6
    · exact refOne_n6 n p w h0 ⟨c0, by omega, by omega, c2, c3, c4, c5, c6, d4, d6⟩ ha
    by_cases d12 : n.op = 12
    · exact refOne_n12 n p w h0 ⟨c0, by omega, by omega, c2, c3, c4, c5, c6, d4, d6, d12⟩ ha
    · exact refOne_n13 n p w h0 ⟨c0, by omega, by omega, c2, c3, c4, c5, c6, d4, d6, d12, by omega⟩ ha
  rw [if_neg c7]
  exact refOne_none n p w h0 ⟨c0, by omega, by omega, c2, c3, c4, c5, c6, by omega, by omega, by omega, by omega⟩

def AlL (f : Fo) (w : World) (y i : Value) (wr : World) : Prop := ∃ j : Nat, j ≤ len f ∧ i = .int .i64 j ∧ OwB w wr y (enc (ofN ((nds f).take j)))
set_option maxHeartbeats 8000000 in
set_option maxRecDepth 100000 in
theorem refAll_any (k : Nat) : ∀ (f : Fo) (A : Option Addr) (c : Nat) (w : World), cnt f ≤ k → RdS w w.heap.size A f → may f = true → len f ≤ maxLen → 24 * wt f ≤ 60000000 →
    Calls Tryz.prog 12 #[.slice A (len f) c] w (Told1 w (enc f)) := by
  induction k using Nat.strongRecOn with
  | ind k ih =>
    intro f A c w hk hr hm hlen hl
    have hvok := hr.vok
    unfold maxLen at hlen
    have HR := Lib.hid hr
    have HIH := Lib.hid ih
    have HM := Lib.hid hm
    have HV := Lib.hid hvok
    clear ih hr hm hvok
    unfold Told1
    go_enter Tryz.func12, Tryz.ntmps12
    go_wp2_with fail
    go_loopw [3, 4] (fun y i wr => AlL f w y i wr) (fun _ i _ => len f - (intOf i).toNat)
    case atStart => exact ⟨0, Nat.zero_le _, rfl, OwnK.nil_ _ _ _ _ (Below.refl _ _) (Nat.le_refl _)⟩
    case round =>
      obtain ⟨j, hj, rfl, hoj⟩ := hrel
      have HOj := Lib.hid hoj
      have hbel := hoj.below
      by_cases hlt : j < len f
      · obtain ⟨b, o, n, p, rfl, hn, hat0⟩ := HR.out.at_ hlt
        obtain ⟨q0, q1, q2, q3, q4, q5, q6, q7, q8⟩ := (hat0.below hbel).nine
        have hb := Nat.lt_of_lt_of_le hat0.lt hbel.size
        have hmem : n ∈ nds f := List.mem_of_getElem? hn
        have hok := hat0.ok
        have hmn : mayN n = true := by have := HM.out; rw [may_nds] at this; exact List.all_eq_true.1 this n hmem
        unfold mayN at hmn
        rw [Bool.and_eq_true, Bool.and_eq_true] at hmn
        have hvn := (vok_nds f).1 HV.out n hmem
        have hws := wt_step hn
        have e1 := enc_len _ (may_take HM.out (j + 1)) (vok_take HV.out (j + 1))
        have e0 := enc_len _ (may_take HM.out j) (vok_take HV.out j)
        have ew := wt_take f (j + 1)
        have e2 := enc_len n.body hmn.1.2 hvn.2.1
        have e3 := enc_len n.els hmn.2 hvn.2.2
        have hes := enc_step hn
        have hlj : (enc (ofN ((nds f).take j))).length + (b8 n.op :: eB n.op n.a n.b n.v n.t n.L (enc n.body) (enc n.els) n.he).length ≤ 60000000 := by
          rw [← List.length_append, ← hes]; omega
        have HOne := Lib.hid (fun w' (hb' : Below w.heap.size w w') => by
          have hok' := (hok.below hb').more hb'.size
          refine refOne_any n p w' hok' hmn.1.1 (fun w'' hb'' => ?_) (fun w'' hb'' => ?_) (by omega)
          · exact HIH.out _ (Nat.lt_of_lt_of_le (cnt_mem hmem).1 hk) n.body p.Ab p.cb w'' (Nat.le_refl _) ((hok'.body.below hb'').more hb''.size) hmn.1.2 (Nat.le_trans hok.num.hb hok.num.cb) (by omega)
          · exact HIH.out _ (Nat.lt_of_lt_of_le (cnt_mem hmem).2 hk) n.els p.Ae p.ce w'' (Nat.le_refl _) ((hok'.els.below hb'').more hb''.size) hmn.2 (Nat.le_trans hok.num.he hok.num.ce) (by omega))
        unfold Told1 at HOne
        have HS := Lib.hid hes
        have HBel := Lib.hid hbel
        obtain ⟨nb, hnb⟩ : ∃ nb, nb = b8 n.op :: eB n.op n.a n.b n.v n.t n.L (enc n.body) (enc n.els) n.he := ⟨_, rfl⟩
        rw [← hnb] at HOne HS hlj
        clear hnb hat0 hbel hmem hok hmn hvn hws e0 e1 e2 e3 ew hes hoj hn HIH
        go_wp2_with (first
          | (go_at_call 23; (with_reducible refine (HOne.out _ HBel.out).mono ?_); rintro e w1 ⟨A1, c1, rfl, hs1, hb1⟩; have HS1 := Lib.hid hs1; have HO1 := Lib.hid (HOj.out.later hb1); clear hs1 hb1)
          | (at_builtin; refine wpl_bytes rfl (.tmp 11) (.tmp 16) rfl nb rfl HO1.out rfl HS1.out rfl (by omega) ?_; intro v2 w2 ho2 hk2; have HO2 := Lib.hid ho2; clear ho2 hk2))
        go_roundw
        case rel => exact ⟨j + 1, by omega, by go_num, by rw [HS.out]; exact HO2.out⟩
        case measure => simp [intOf]; omega
      · have hT := List.take_of_length_le (l := nds f) (i := j) (by unfold len at *; omega)
        rw [hT, ofN_nds] at HOj
        clear hoj hbel
        obtain ⟨A9, c9, hv9, -, -, hs9⟩ := HOj.out.form
        have HS9 := Lib.hid hs9
        have HB9 := Lib.hid HOj.out.below
        subst hv9
        clear hs9
        go_wp2_with fail
        go_ret
        exact ⟨_, _, rfl, HS9.out, HB9.out⟩
end Go.Proofs.YtbhniddgkdldlaaGreatDoor
