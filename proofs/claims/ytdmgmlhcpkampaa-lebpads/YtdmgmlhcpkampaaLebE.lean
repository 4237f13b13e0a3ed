/- The walk of LebPads: it returns true, whatever v; nothing that was there changes. -/
import Derived.Test.YtdmgmlhcpkampaaLebD
import Derived.Test.YtdmgmlhcpkampaaLebMath3
import Derived.OpenShut
namespace Go.Proofs.Ytdmgmlhcpkampaa
open Go.RowKit

set_option maxHeartbeats 1000000 in
set_option maxRecDepth 100000 in
theorem walk_LebPads (a : Int) (w : World) (ha : (Lit.int .u64 a).wf = true) :
    Calls Try.prog 8 #[.int .u64 a] w fun e w' => e = .returned (.bool true) ∧ Below w.heap.size w w' := by
  obtain ⟨h1, h2⟩ := bounds_u64 ha
  obtain ⟨v, rfl⟩ := Int.eq_ofNat_of_zero_le h1
  clear ha h1
  by_cases hv : 4294967295 < v
  · have hv' : (4294967295 : Int) < (v : Int) := by omega
    go_enter Try.func8, Try.ntmps8
    go_wp2_with fail
    with_reducible refine (up_any _).mono ?_
    rintro e w1 ⟨rfl, hb1⟩
    go_wp2_with fail
    with_reducible refine (Pad_bad _ _ hv).mono ?_
    rintro e w2 ⟨rfl, rfl⟩
    go_wp2
    go_ret
    exact ⟨rfl, hb1⟩
  · have hv' : ¬ (4294967295 : Int) < (v : Int) := by omega
    have hlen := Leb.padU_length 4 v
    have hr := Leb.pad_read v (by omega)
    go_enter Try.func8, Try.ntmps8
    go_wp2_with fail
    with_reducible refine (up_any _).mono ?_
    rintro e w1 ⟨rfl, hb1⟩
    go_wp2_with fail
    with_reducible refine (Pad_any _ _ (by omega)).mono ?_
    rintro e w2 ⟨s, rfl, hown⟩
    obtain ⟨A, c, rfl, hc1, hc2, hsl⟩ := hown.bytes
    have hb2 := hb1.trans (hown.below.mono hb1.size)
    rw [hlen] at hc1 ⊢
    have HU := Lib.hid (U_int (n := 5) (at_ := 0) (bits := 32) _ hsl (Nat.le_refl _) hlen hc1 hc2 (by decide) (by decide) (by decide) (by decide) hr)
    clear hown hsl hr hlen hc1
    go_wp2_with fail
    with_reducible refine HU.out.mono ?_
    rintro e w3 ⟨rfl, nq, rfl⟩
    unfold uV
    go_wp2
    go_ret
    exact ⟨rfl, below_drewN hb2 _⟩

end Go.Proofs.Ytdmgmlhcpkampaa
