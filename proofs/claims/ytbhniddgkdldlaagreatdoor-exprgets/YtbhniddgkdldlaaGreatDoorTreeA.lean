/- Contract of the reference's Count: of whatever reads as a list of trees. -/
import Derived.Test.YtbhniddgkdldlaaGreatDoorTreeRd
set_option linter.unusedVariables false
set_option linter.unusedSimpArgs false
namespace Go.Proofs.YtbhniddgkdldlaaGreatDoor
open Go.RowKit Trx

theorem wr0 : wrap64 0 = 0 := by unfold wrap64; omega
theorem wr4 (n a b : Nat) : wrap64 (wrap64 (wrap64 (wrap64 (n : Int) + 1) + wrap64 (a : Int)) + wrap64 (b : Int)) = wrap64 ((n + 1 + a + b : Nat) : Int) := by
  unfold wrap64; omega

set_option maxHeartbeats 4000000 in
set_option maxRecDepth 100000 in
theorem refCount_any (k : Nat) : ∀ (f : Fo) (A : Option Addr) (c : Nat) (w : World), cnt f ≤ k → RdS w w.heap.size A f → len f ≤ maxLen →
    Calls Tryz.prog 9 #[.slice A (len f) c] w fun e w' => e = .returned (.tuple #[.int .i64 (wrap64 (cnt f)), .int .i64 (dp f)]) ∧ w = w' := by
  induction k using Nat.strongRecOn with
  | ind k ih =>
    intro f A c w hk hr hm
    unfold maxLen at hm
    have HR := Lib.hid hr
    have HIH := Lib.hid ih
    clear ih hr
    go_enter Tryz.func9, Tryz.ntmps9
    go_wp2_with fail
    go_loop [4, 5, 6] (fun n d i => ∃ j : Nat, j ≤ len f ∧ i = .int .i64 j ∧ n = .int .i64 (wrap64 (cnt (ofN ((nds f).take j)))) ∧ d = .int .i64 (dp (ofN ((nds f).take j)))) (fun _ _ i => len f - (intOf i).toNat)
    case atStart => exact ⟨0, by omega, rfl, by simp [ofN, cnt, wr0], by simp [ofN, dp]⟩
    case round =>
      obtain ⟨j, hj, rfl, rfl, rfl⟩ := hrel
      by_cases hlt : j < len f
      · obtain ⟨b, o, n, p, rfl, hn, hat⟩ := HR.out.at_ hlt
        obtain ⟨q0, -, -, -, -, -, q6, q7, -⟩ := hat.nine
        have hb := hat.lt
        have hmem : n ∈ nds f := List.mem_of_getElem? hn
        obtain ⟨hc1, hc2⟩ := cnt_mem hmem
        have hok := hat.ok
        have HB := Lib.hid (HIH.out _ (Nat.lt_of_lt_of_le hc1 hk) n.body p.Ab p.cb w (Nat.le_refl _) hok.body (Nat.le_trans hok.num.hb hok.num.cb))
        have HE := Lib.hid (HIH.out _ (Nat.lt_of_lt_of_le hc2 hk) n.els p.Ae p.ce w (Nat.le_refl _) hok.els (Nat.le_trans hok.num.he hok.num.ce))
        have hts : (nds f).take (j + 1) = (nds f).take j ++ [n] := by
          rw [List.take_add_one, hn]; rfl
        have HC := Lib.hid (cnt_snoc ((nds f).take j) n)
        have HD1 := Lib.hid (dp_snoc_blk ((nds f).take j) n)
        have HD2 := Lib.hid (dp_snoc_not ((nds f).take j) n)
        rw [← hts] at HC HD1 HD2
        have hinb := hok.num.op
        clear hmem hc1 hc2 hok hat hts hn HIH
        unfold inI at hinb
        go_wp2_with (first
          | (go_at_call 9; ((with_reducible refine HB.out.mono ?_); rintro e w' ⟨rfl, rfl⟩))
          | (go_at_call 9; ((with_reducible refine HE.out.mono ?_); rintro e w' ⟨rfl, rfl⟩)))
        all_goals
          go_round
          case rel => exact ⟨j + 1, by omega, by go_num, by rw [HC.out, wr4], by
            first
            | (rw [HD1.out (by simp [isBlk]; omega)]; unfold up1; congr 1; omega)
            | (rw [HD2.out (by simp [isBlk]; omega)])⟩
          case measure => simp [intOf]; omega
      · have hj' : j = (nds f).length := by unfold len at *; omega
        have HT := Lib.hid (List.take_of_length_le (l := nds f) (i := j) (by omega))
        clear hj'
        go_wp2_with fail
        go_ret2
        exact ⟨by rw [HT.out, ofN_nds]; rfl, rfl⟩
end Go.Proofs.YtbhniddgkdldlaaGreatDoor
