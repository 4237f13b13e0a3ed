/- Contracts of leb.PutU, leb.PutS, leb.Pad: the bytes that each makes, in new memory. -/
import Derived.Test.YtdmgmlhcpkampaaLebB
import Derived.Test.YtdmgmlhcpkampaaOwn
import Derived.Test.YtdmgmlhcpkampaaLebMath2
namespace Go.Proofs.Ytdmgmlhcpkampaa
open Go.RowKit

theorem u8s_snoc (l : List UInt8) (n : Nat) (h : n < 256) : u8s (l ++ [UInt8.ofNat n]) = u8s l ++ [.int .u8 (n : Int)] := by
  simp [u8s]; omega
theorem u8_ret (l : List UInt8) (n : Nat) (z : Int) (h : n < 256) (hz : z = (n : Int)) : u8s l ++ [Value.int .u8 z] = u8s (l ++ [UInt8.ofNat n]) := by
  rw [u8s_snoc l n h, hz]
theorem elem_u8 : Elem Try.prog 5 1 := Elem.mk_ (z := .int .u8 0) (by kernel_rfl) rfl

set_option maxHeartbeats 1000000 in
set_option maxRecDepth 100000 in
theorem PutU_any (v : Nat) (w : World) (hv : v < 18446744073709551616) :
    Calls Try.prog 14 #[.int .u64 v] w fun e w' => ∃ s, e = .returned s ∧ Own w.heap.size w w' 5 s (u8s (Leb.putU v)) := by
  go_enter Try.func14, Try.ntmps14
  go_wp2
  go_loopw [0, 3] (fun n s wr => ∃ cur pre, n = .int .u64 (cur : Nat) ∧ cur < 18446744073709551616 ∧ Own w.heap.size w wr 5 s (u8s pre) ∧ Hid (pre ++ Leb.putU cur = Leb.putU v)) (fun n _ _ => (intOf n).toNat)
  case atStart => exact ⟨v, [], rfl, hv, Own.nil_ _ _ _ (Below.refl _ _) (Nat.le_refl _), Lib.hid rfl⟩
  case round =>
    obtain ⟨cur, pre, rfl, hcur, hown, HP⟩ := hrel
    have hlen : pre.length ≤ 10 := by
      have h1 := congrArg List.length HP.out
      have h2 := Leb.putU_len10 hv
      rw [List.length_append] at h1
      omega
    by_cases hbig : 127 < cur
    · go_wp2_with (at_builtin; refine wpList_push rfl _ _ _ rfl _ 1 Try.underlying22 elem_u8 (by decide) _ _ _ _ _ _ 1 rfl hown rfl rfl (by simp; omega) ?_; intro v' w' hown')
      have e1 := Leb.or128 (cur % 256) (by omega)
      rw [show ((cur : Int) % 256) = ((cur % 256 : Nat) : Int) by simp, e1, show cur % 256 % 128 = cur % 128 by omega, ← u8s_snoc _ _ (by omega)] at hown'
      go_roundw
      case rel => exact ⟨cur / 128, _, by simp, by omega, hown', Lib.hid (by rw [List.append_assoc, List.singleton_append, ← Leb.putU_big (by omega)]; exact HP.out)⟩
      case measure => simp [intOf]; omega
    · go_wp2_with (at_builtin; refine wpList_push rfl _ _ _ rfl _ 1 Try.underlying22 elem_u8 (by decide) _ _ _ _ _ _ 1 rfl hown rfl rfl (by simp; omega) ?_; intro v' w' hown')
      rw [← u8s_snoc _ _ (by omega), ← Leb.putU_small (by omega), HP.out] at hown'
      go_ret
      exact ⟨_, rfl, hown'⟩

set_option maxHeartbeats 1000000 in
set_option maxRecDepth 100000 in
theorem PutS_any (v : Int) (w : World) (hv1 : -9223372036854775808 ≤ v) (hv2 : v < 9223372036854775808) :
    Calls Try.prog 16 #[.int .i64 v] w fun e w' => ∃ s, e = .returned s ∧ Own w.heap.size w w' 5 s (u8s (Leb.putS v)) := by
  go_enter Try.func16, Try.ntmps16
  go_wp2
  go_loopw [0, 3] (fun n s wr => ∃ (cur : Int) (pre : List UInt8), n = .int .i64 cur ∧ -9223372036854775808 ≤ cur ∧ cur < 9223372036854775808 ∧ Own w.heap.size w wr 5 s (u8s pre) ∧ Hid (pre ++ Leb.putS cur = Leb.putS v)) (fun n _ _ => (intOf n).natAbs)
  case atStart => exact ⟨v, [], rfl, hv1, hv2, Own.nil_ _ _ _ (Below.refl _ _) (Nat.le_refl _), Lib.hid rfl⟩
  case round =>
    obtain ⟨cur, pre, rfl, hc1, hc2, hown, HP⟩ := hrel
    have hlen : pre.length ≤ 10 := by
      have h1 := congrArg List.length HP.out
      have h2 := Leb.putS_len10 hv1 hv2
      rw [List.length_append] at h1
      omega
    by_cases hbig : -64 ≤ cur ∧ cur < 64
    · obtain ⟨b1, b2⟩ := hbig
      have t1 : decide (cur < -64) = false := by simp; omega
      have t2 : decide (64 ≤ cur) = false := by simp; omega
      go_wp2_with (at_builtin; refine wpList_push rfl _ _ _ rfl _ 1 Try.underlying22 elem_u8 (by decide) _ _ _ _ _ _ 1 rfl hown rfl rfl (by simp; omega) ?_; intro v' w' hown')
      have e1 : bits .and .u8 (cur % 256) 127 = (((cur % 128).toNat : Nat) : Int) := by
        obtain ⟨q, hq⟩ : ∃ q : Nat, cur % 256 = q := ⟨(cur % 256).toNat, by omega⟩
        rw [hq, show (127 : Int) = ((127 : Nat) : Int) from rfl, u8_and_nat q 127 (by omega) (by omega), nat_mask7]
        omega
      rw [e1, ← u8s_snoc _ _ (by omega), ← Leb.putS_small ⟨b1, b2⟩, HP.out] at hown'
      go_ret
      exact ⟨_, rfl, hown'⟩
    · have H2 := Lib.hid (Leb.putS_big hbig)
      have hb2 : cur < -64 ∨ 64 ≤ cur := by omega
      clear hbig
      by_cases b1 : cur < -64
      all_goals
        go_wp2_with (at_builtin; refine wpList_push rfl _ _ _ rfl _ 1 Try.underlying22 elem_u8 (by decide) _ _ _ _ _ _ 1 rfl hown rfl rfl (by simp; omega) ?_; intro v' w' hown')
        obtain ⟨q, hq⟩ : ∃ q : Nat, cur % 256 = q := ⟨(cur % 256).toNat, by omega⟩
        rw [hq, Leb.or128 q (by omega), show q % 128 = (cur % 128).toNat by omega, ← u8s_snoc _ _ (by omega)] at hown'
        go_roundw
        case rel => exact ⟨cur / 128, _, by simp, by omega, by omega, hown', Lib.hid (by rw [List.append_assoc, List.singleton_append, ← H2.out]; exact HP.out)⟩
        case measure => simp [intOf]; omega

set_option maxHeartbeats 1000000 in
set_option maxRecDepth 100000 in
theorem Pad_any (v : Nat) (w : World) (hv : v < 4294967296) :
    Calls Try.prog 13 #[.int .u64 v] w fun e w' => ∃ s, e = .returned (.tuple #[s, .nilIface]) ∧ Own w.heap.size w w' 5 s (u8s (Leb.padU v 4)) := by
  have hmk : ∀ w, (Instr.makeSlice 22 (.int .i64 5) (.int .i64 5)).run Try.prog w = .ok (.slice (some ⟨w.heap.size, 0, none⟩) 5 5) (w.alloc (.cells #[.int .u8 0, .int .u8 0, .int .u8 0, .int .u8 0, .int .u8 0] 5)) := fun _ => by kernel_rfl
  go_enter Try.func13, Try.ntmps13
  go_wp2
  refine wp_loop_rounds 6 ?_
  iterate 6 (rw [rounds_succ]; go_wp2)
  go_ret2
  refine ⟨_, rfl, ?_, (Below.refl _ _).alloc (Nat.le_refl _) _, by simp⟩
  have h := World.ownsRow_lit (base := w.heap.size) (e := 5) (size := 1) w #[Value.int .u8 (bits .or .u8 ((v : Int) % 256) 128),
    .int .u8 (bits .or .u8 ((v : Int) / 128 % 256) 128), .int .u8 (bits .or .u8 ((v : Int) / 128 / 128 % 256) 128), .int .u8 (bits .or .u8 ((v : Int) / 128 / 128 / 128 % 256) 128),
    .int .u8 (bits .and .u8 (bits .or .u8 ((v : Int) / 128 / 128 / 128 / 128) 128) 127)] 5 (Nat.le_refl _) (by decide) rfl
  rw [Leb.pad_cells v hv] at h
  exact h

theorem Pad_bad (v : Nat) (w : World) (hv : 4294967295 < v) :
    Calls Try.prog 13 #[.int .u64 v] w fun e w' => e = .returned (.tuple #[.slice none 0 0, .iface 31 (.int .i64 1)]) ∧ w = w' := by
  have h : (4294967295 : Int) < (v : Int) := by omega
  go_enter Try.func13, Try.ntmps13
  go_wp2
  go_ret2
  exact ⟨rfl, rfl⟩

end Go.Proofs.Ytdmgmlhcpkampaa
