/- Contracts of tree.isBlock and tree.Count: of whatever reads as a list of trees. -/
import Derived.Test.YtmdgemdollfnhaaGreatDoorTreeA
import Derived.Test.YtmdgemdollfnhaaGreatDoorOpAE
namespace Go.Proofs.YtmdgemdollfnhaaGreatDoor
open Go.RowKit Trx

theorem wr4' (n a b : Nat) : wrap64 (wrap64 (n : Int) + wrap64 (wrap64 (1 + wrap64 (a : Int)) + wrap64 (b : Int))) = wrap64 ((n + 1 + a + b : Nat) : Int) := by
  unfold wrap64; omega

theorem kd_two (b : Int) : (Opx.kd b == 2) = (decide (2 ≤ b) && decide (b ≤ 4)) := by
  unfold Opx.kd
  rw [Bool.eq_iff_iff]
  simp
  (repeat' split) <;> omega
theorem nm_blk (b : Int) (h : isBlk b = true) : Opx.nm b ≠ [] ∧ Opx.flt b = false := by
  simp [isBlk] at h
  have : b = 2 ∨ b = 3 ∨ b = 4 := by omega
  rcases this with rfl | rfl | rfl <;> decide

set_option maxHeartbeats 4000000 in
set_option maxRecDepth 100000 in
theorem isBlock_any (b : Int) (w : World) (hN : Nam w) (hb : inI b) :
    Calls Tryz.prog 53 #[.int .i64 b] w fun e w' => e = .returned (.bool (isBlk b)) ∧ Below w.heap.size w w' := by
  unfold inI at hb
  by_cases hf : Opx.flt b = true
  · have hnb : isBlk b = false := by
      cases e : isBlk b with
      | false => rfl
      | true => rw [(nm_blk b e).2] at hf; cases hf
    rw [hnb]
    have HL := Lib.hid (Look_flt b w hf)
    unfold noV at HL
    clear hnb hf hN
    go_enter Tryz.func53, Tryz.ntmps53
    go_wp2_with (go_at_call 67; refine HL.out.mono ?_; rintro e w' ⟨rfl, hb1⟩; have HB := Lib.hid hb1; clear hb1)
    go_ret
    exact ⟨rfl, HB.out.alloc HB.out.size _⟩
  · have hf' : Opx.flt b = false := by simpa using hf
    by_cases hn : Opx.nm b = []
    · have hnb : isBlk b = false := by
        cases e : isBlk b with
        | false => rfl
        | true => exact absurd hn (nm_blk b e).1
      rw [hnb]
      have HL := Lib.hid (Look_none b w hN (by omega) (by omega) hf' hn)
      unfold noV at HL
      clear hnb hf hf' hn hN
      go_enter Tryz.func53, Tryz.ntmps53
      go_wp2_with (go_at_call 67; refine HL.out.mono ?_; rintro e w' ⟨rfl, hb1⟩; have HB := Lib.hid hb1; clear hb1)
      go_ret
      exact ⟨rfl, HB.out.alloc HB.out.size _⟩
    · have HL := Lib.hid (Look_op b w hN hn hf')
      unfold opV at HL
      unfold isBlk
      rw [← kd_two b]
      clear hf hf' hn hN
      go_enter Tryz.func53, Tryz.ntmps53
      go_wp2_with (go_at_call 67; refine HL.out.mono ?_; rintro e w' ⟨A, c, rfl, ho⟩; have HB := Lib.hid ho.below; have hl := ho.le; clear ho)
      go_ret
      exact ⟨rfl, HB.out.alloc hl _⟩

/-- a new block of nine cells, behind a call that changes nothing older. -/
theorem nineB {w0 w : World} {a0 a1 a2 a3 a4 a5 a6 a7 a8 : Value} {t : TypeId} (h : Below (w0.alloc (.cells #[a0, a1, a2, a3, a4, a5, a6, a7, a8] t)).heap.size (w0.alloc (.cells #[a0, a1, a2, a3, a4, a5, a6, a7, a8] t)) w) :
    (w0.heap.size < w.heap.size) ∧ (w.cell? ⟨w0.heap.size, 0, none⟩ = some a0) ∧ (w.cell? ⟨w0.heap.size, 1, none⟩ = some a1) ∧ (w.cell? ⟨w0.heap.size, 2, none⟩ = some a2) ∧ (w.cell? ⟨w0.heap.size, 3, none⟩ = some a3) ∧
    (w.cell? ⟨w0.heap.size, 4, none⟩ = some a4) ∧ (w.cell? ⟨w0.heap.size, 5, none⟩ = some a5) ∧ (w.cell? ⟨w0.heap.size, 6, none⟩ = some a6) ∧ (w.cell? ⟨w0.heap.size, 7, none⟩ = some a7) ∧ (w.cell? ⟨w0.heap.size, 8, none⟩ = some a8) ∧
    (∀ i, w.frozen? ⟨w0.heap.size, i, none⟩ = false) ∧ Below w0.heap.size w0 w := by
  have hc : ∀ i, w.cell? ⟨w0.heap.size, i, none⟩ = (#[a0, a1, a2, a3, a4, a5, a6, a7, a8] : Array Value)[i]? := fun i => (h.cell (p := ⟨w0.heap.size, i, none⟩) (by simp)).trans (World.cell?_alloc_at _ _ _ _ rfl)
  exact ⟨by have := h.size; simp at this; omega, hc 0, hc 1, hc 2, hc 3, hc 4, hc 5, hc 6, hc 7, hc 8, fun i => (h.frozen (p := ⟨w0.heap.size, i, none⟩) (by simp)).trans (World.frozen?_alloc_at _ _ _ _ rfl),
    ((Below.refl _ _).alloc (Nat.le_refl _) _).trans (h.mono (by simp))⟩
theorem cell_later {w w' : World} {b o : Nat} {v : Value} (h : w.cell? ⟨b, o, none⟩ = some v) (hb : Below w.heap.size w w') : w'.cell? ⟨b, o, none⟩ = some v :=
  (hb.cell (p := ⟨b, o, none⟩) (World.block_lt_of_cell? _ _ h)).trans h

set_option maxHeartbeats 4000000 in
set_option maxRecDepth 100000 in
theorem Count_any (k : Nat) : ∀ (f : Fo) (A : Option Addr) (c : Nat) (w : World), cnt f ≤ k → Nam w → RdS w w.heap.size A f → len f ≤ maxLen →
    Calls Tryz.prog 11 #[.slice A (len f) c] w fun e w' => e = .returned (.tuple #[.int .i64 (wrap64 (cnt f)), .int .i64 (dp f)]) ∧ Below w.heap.size w w' := by
  induction k using Nat.strongRecOn with
  | ind k ih =>
    intro f A c w hk hN hr hm
    unfold maxLen at hm
    have HR := Lib.hid hr
    have HN := Lib.hid hN
    have HIH := Lib.hid ih
    clear ih hr hN
    go_enter Tryz.func11, Tryz.ntmps11
    go_wp2_with fail
    go_loopw [4, 5, 14] (fun n d i wr => ∃ j : Nat, j ≤ len f ∧ i = .int .i64 j ∧ n = .int .i64 (wrap64 (cnt (ofN ((nds f).take j)))) ∧ d = .int .i64 (dp (ofN ((nds f).take j))) ∧ Below w.heap.size w wr) (fun _ _ i _ => len f - (intOf i).toNat)
    case atStart => exact ⟨0, by omega, rfl, by simp [ofN, cnt, wr0], by simp [ofN, dp], Below.refl _ _⟩
    case round =>
      obtain ⟨j, hj, rfl, rfl, rfl, hbel⟩ := hrel
      by_cases hlt : j < len f
      · obtain ⟨b, o, n, p, rfl, hn, hat0⟩ := HR.out.at_ hlt
        have hat := hat0.below hbel
        obtain ⟨q0, q1, q2, q3, q4, q5, q6, q7, q8⟩ := hat.nine
        have hb0 := hat.lt
        have hb := Nat.lt_of_lt_of_le hb0 hbel.size
        have hmem : n ∈ nds f := List.mem_of_getElem? hn
        obtain ⟨hc1, hc2⟩ := cnt_mem hmem
        have hok := hat.ok
        have HN1 := Lib.hid (HN.out.below hbel)
        have HB := Lib.hid (fun w' (hb : Below w.heap.size w w') => HIH.out _ (Nat.lt_of_lt_of_le hc1 hk) n.body p.Ab p.cb w' (Nat.le_refl _) (HN.out.below hb) ((hat0.ok.body.below hb).more hb.size) (Nat.le_trans hok.num.hb hok.num.cb))
        have HE := Lib.hid (fun w' (hb : Below w.heap.size w w') => HIH.out _ (Nat.lt_of_lt_of_le hc2 hk) n.els p.Ae p.ce w' (Nat.le_refl _) (HN.out.below hb) ((hat0.ok.els.below hb).more hb.size) (Nat.le_trans hok.num.he hok.num.ce))
        have HI := Lib.hid (fun w' (hb : Below w.heap.size w w') => isBlock_any n.op w' (HN.out.below hb) hok.num.op)
        have hts : (nds f).take (j + 1) = (nds f).take j ++ [n] := by
          rw [List.take_add_one, hn]; rfl
        have HC := Lib.hid (cnt_snoc ((nds f).take j) n)
        have HD1 := Lib.hid (dp_snoc_blk ((nds f).take j) n)
        have HD2 := Lib.hid (dp_snoc_not ((nds f).take j) n)
        rw [← hts] at HC HD1 HD2
        have HBel := Lib.hid hbel
        have hsz := hbel.size
        clear hmem hc1 hc2 hok hat hat0 hts hn HIH hbel HR HN HN1
        cases hq : isBlk n.op
        all_goals
          rw [hq] at HI
          have HQ := Lib.hid hq
          clear hq
          go_wp2_with (first
            | (go_at_call 11; ((with_reducible refine (HB.out _ (HBel.out.alloc hsz _)).mono ?_); rintro e w1 ⟨rfl, hb1⟩; obtain ⟨hlt1, k0, -, -, -, -, -, -, k7, -, -, hw1⟩ := nineB hb1; have HB1 := Lib.hid (HBel.out.trans (hw1.mono hsz)); clear hb1 hw1))
            | (go_at_call 11; ((with_reducible refine (HE.out _ HB1.out).mono ?_); rintro e w2 ⟨rfl, hb2⟩; have k0' := cell_later k0 hb2; have hlt2 := Nat.lt_of_lt_of_le hlt1 hb2.size; have HB2 := Lib.hid (HB1.out.trans (hb2.mono HB1.out.size)); clear hb2))
            | (go_at_call 53; ((with_reducible refine (HI.out _ HB2.out).mono ?_); rintro e w3 ⟨rfl, hb3⟩; have HB3 := Lib.hid (HB2.out.trans (hb3.mono HB2.out.size)); clear hb3)))
          go_roundw
          case rel => exact ⟨j + 1, by omega, by go_num, by rw [HC.out, wr4'], by
            first
            | (rw [HD2.out HQ.out])
            | (rw [HD1.out HQ.out]; unfold up1; congr 1; rw [Int.add_comm 1 (dp n.body), Int.add_comm 1 (dp n.els)]; omega), HB3.out⟩
          case measure => simp [intOf]; omega
      · have hj' : j = (nds f).length := by unfold len at *; omega
        have HT := Lib.hid (List.take_of_length_le (l := nds f) (i := j) (by omega))
        clear hj'
        go_wp2_with fail
        go_ret2
        exact ⟨by rw [HT.out, ofN_nds]; rfl, hbel⟩
end Go.Proofs.YtmdgemdollfnhaaGreatDoor
