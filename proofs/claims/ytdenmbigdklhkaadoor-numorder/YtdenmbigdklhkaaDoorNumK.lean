/- grommetlaw03.NumOrder returns true for every input. -/
import Derived.Test.YtdenmbigdklhkaaDoorNumI
namespace Go.Proofs.YtdenmbigdklhkaaDoor
open Go.RowKit

theorem ev_sl2 (op a b : Int) (A : Option Addr) (w : World) (h0 : 0 ≤ op) (hn : Num.many op = 2) (ha : 0 ≤ a ∧ a < 2 ^ Num.bitsOf op) (hb : 0 ≤ b ∧ b < 2 ^ Num.bitsOf op) (v t : Int) (hv : Num.ev2 op a b = (v, t)) (hs : Sl w w.heap.size A (u64s [a, b])) :
    Calls Tryd.prog 13 #[.int .i64 op, .slice A 2 2] w fun e w' => e = .returned (.tuple #[.int .u64 v, .int .i64 t, .nilIface]) ∧ Sl w' w'.heap.size A (u64s [a, b]) ∧ Below w.heap.size w w' := by
  have h2 := many_two op hn
  have h := Eval_two op a b A 2 w (by omega) (by omega) hn hs (Nat.le_refl _) (by decide) ha hb
  rw [hv] at h
  refine h.mono ?_
  rintro e w' ⟨rfl, nq, rfl⟩
  exact ⟨rfl, hs, below_drewN (Below.refl _ _) nq⟩

theorem sg_inj {n : Nat} {a b : Int} (ha : Fit n a) (hb : Fit n b) (h : Num.sg n a = Num.sg n b) : a = b := by
  rcases ha with ⟨rfl, h0, h1⟩ | ⟨rfl, h0, h1⟩
  · rcases hb with ⟨_, h2, h3⟩ | ⟨h2, _⟩
    · rw [Num.sg32, Num.sg32] at h
      split at h <;> split at h <;> omega
    · cases h2
  · rcases hb with ⟨h2, _⟩ | ⟨_, h2, h3⟩
    · cases h2
    · rw [Num.sg64, Num.sg64] at h
      split at h <;> split at h <;> omega

/-- one below the other, or the same: of any two numbers. -/
theorem three (s t : Int) (e : Int) (he : e = Num.tr (decide (s = t))) : ∃ lt gt le ge : Int, Num.tr (decide (s < t)) = lt ∧ Num.tr (decide (t < s)) = gt ∧ Num.tr (decide (s ≤ t)) = le ∧ Num.tr (decide (t ≤ s)) = ge ∧
    0 ≤ lt ∧ lt ≤ 1 ∧ 0 ≤ gt ∧ gt ≤ 1 ∧ lt + gt + e = 1 ∧ le = lt + e ∧ ge = gt + e := by
  subst he
  refine ⟨_, _, _, _, rfl, rfl, rfl, rfl, ?_⟩
  rcases Int.lt_trichotomy s t with h | h | h
  · simp [Num.tr, h, Int.le_of_lt h, show ¬ t < s by omega, show ¬ t ≤ s by omega, show ¬ s = t by omega]
  · subst h; simp [Num.tr]
  · simp [Num.tr, h, Int.le_of_lt h, show ¬ s < t by omega, show ¬ s ≤ t by omega, show ¬ s = t by omega]

set_option maxHeartbeats 8000000 in
set_option maxRecDepth 100000 in
theorem order32 (a b : Int) (w : World) (ha : 0 ≤ a ∧ a < 18446744073709551616) (hb : 0 ≤ b ∧ b < 18446744073709551616) :
    Calls Tryd.prog 7 #[.int .u64 a, .int .u64 b, .bool false] w fun e w' => e = .returned (.bool true) ∧ Below w.heap.size w w' := by
  have fa : Fit 32 (a % 4294967296) := .inl ⟨rfl, by omega, by omega⟩
  have fb : Fit 32 (b % 4294967296) := .inl ⟨rfl, by omega, by omega⟩
  obtain ⟨q, hq⟩ : ∃ q, q = Num.tr (decide ((a % 4294967296) = (b % 4294967296))) := ⟨_, rfl⟩
  obtain ⟨r, hr⟩ : ∃ r, r = Num.tr (decide ((a % 4294967296) ≠ (b % 4294967296))) := ⟨_, rfl⟩
  have hq1 : 0 ≤ q ∧ q ≤ 1 ∧ q + r = 1 ∧ 0 ≤ r ∧ r ≤ 1 := by
    rw [hq, hr]
    by_cases h : (a % 4294967296) = (b % 4294967296) <;> simp [h, Num.tr]
  have hqs : q = Num.tr (decide (Num.sg 32 (a % 4294967296) = Num.sg 32 (b % 4294967296))) := by
    rw [hq]
    congr 1
    rw [Bool.eq_iff_iff]
    simp only [decide_eq_true_eq]
    exact ⟨fun h => by rw [h], fun h => sg_inj fa fb h⟩
  obtain ⟨l1, g1, m1, n1, hl1, hg1, hm1, hn1, b1, b2, b3, b4, s1, s2, s3⟩ := three (Num.sg 32 (a % 4294967296)) (Num.sg 32 (b % 4294967296)) q hqs
  obtain ⟨l2, g2, m2, n2, hl2, hg2, hm2, hn2, d1, d2, d3, d4, u1, u2, u3⟩ := three (a % 4294967296) (b % 4294967296) q hq
  have e0 : Num.ev2 70 (a % 4294967296) (b % 4294967296) = (q, 0) := by rw [hq]; rfl
  have e1 : Num.ev2 (70 + 1) (a % 4294967296) (b % 4294967296) = (r, 0) := by rw [hr]; rfl
  have e2 : Num.ev2 (70 + 2) (a % 4294967296) (b % 4294967296) = (l1, 0) := by rw [← hl1]; rfl
  have e3 : Num.ev2 (70 + 3) (a % 4294967296) (b % 4294967296) = (l2, 0) := by rw [← hl2]; rfl
  have e4 : Num.ev2 (70 + 4) (a % 4294967296) (b % 4294967296) = (g1, 0) := by rw [← hg1]; rfl
  have e5 : Num.ev2 (70 + 5) (a % 4294967296) (b % 4294967296) = (g2, 0) := by rw [← hg2]; rfl
  have e6 : Num.ev2 (70 + 6) (a % 4294967296) (b % 4294967296) = (m1, 0) := by rw [← hm1]; rfl
  have e7 : Num.ev2 (70 + 7) (a % 4294967296) (b % 4294967296) = (m2, 0) := by rw [← hm2]; rfl
  have e8 : Num.ev2 (70 + 8) (a % 4294967296) (b % 4294967296) = (n1, 0) := by rw [← hn1]; rfl
  have e9 : Num.ev2 (70 + 9) (a % 4294967296) (b % 4294967296) = (n2, 0) := by rw [← hn2]; rfl
  have HU := Lib.hid (fun w => up_any w)
  have HL := Lib.hid (fun w => Sl.lit64 w [(a % 4294967296), (b % 4294967296)] 28)
  have E0 := Lib.hid (fun A w => ev_sl2 70 (a % 4294967296) (b % 4294967296) A w (by decide) (by decide) (by simp [Num.bitsOf]; omega) (by simp [Num.bitsOf]; omega) _ _ e0)
  have E1 := Lib.hid (fun A w => ev_sl2 (70 + 1) (a % 4294967296) (b % 4294967296) A w (by decide) (by decide) (by simp [Num.bitsOf]; omega) (by simp [Num.bitsOf]; omega) _ _ e1)
  rw [show (70 : Int) + 1 = 71 from rfl] at E1
  have E2 := Lib.hid (fun A w => ev_sl2 (70 + 2) (a % 4294967296) (b % 4294967296) A w (by decide) (by decide) (by simp [Num.bitsOf]; omega) (by simp [Num.bitsOf]; omega) _ _ e2)
  rw [show (70 : Int) + 2 = 72 from rfl] at E2
  have E3 := Lib.hid (fun A w => ev_sl2 (70 + 3) (a % 4294967296) (b % 4294967296) A w (by decide) (by decide) (by simp [Num.bitsOf]; omega) (by simp [Num.bitsOf]; omega) _ _ e3)
  rw [show (70 : Int) + 3 = 73 from rfl] at E3
  have E4 := Lib.hid (fun A w => ev_sl2 (70 + 4) (a % 4294967296) (b % 4294967296) A w (by decide) (by decide) (by simp [Num.bitsOf]; omega) (by simp [Num.bitsOf]; omega) _ _ e4)
  rw [show (70 : Int) + 4 = 74 from rfl] at E4
  have E5 := Lib.hid (fun A w => ev_sl2 (70 + 5) (a % 4294967296) (b % 4294967296) A w (by decide) (by decide) (by simp [Num.bitsOf]; omega) (by simp [Num.bitsOf]; omega) _ _ e5)
  rw [show (70 : Int) + 5 = 75 from rfl] at E5
  have E6 := Lib.hid (fun A w => ev_sl2 (70 + 6) (a % 4294967296) (b % 4294967296) A w (by decide) (by decide) (by simp [Num.bitsOf]; omega) (by simp [Num.bitsOf]; omega) _ _ e6)
  rw [show (70 : Int) + 6 = 76 from rfl] at E6
  have E7 := Lib.hid (fun A w => ev_sl2 (70 + 7) (a % 4294967296) (b % 4294967296) A w (by decide) (by decide) (by simp [Num.bitsOf]; omega) (by simp [Num.bitsOf]; omega) _ _ e7)
  rw [show (70 : Int) + 7 = 77 from rfl] at E7
  have E8 := Lib.hid (fun A w => ev_sl2 (70 + 8) (a % 4294967296) (b % 4294967296) A w (by decide) (by decide) (by simp [Num.bitsOf]; omega) (by simp [Num.bitsOf]; omega) _ _ e8)
  rw [show (70 : Int) + 8 = 78 from rfl] at E8
  have E9 := Lib.hid (fun A w => ev_sl2 (70 + 9) (a % 4294967296) (b % 4294967296) A w (by decide) (by decide) (by simp [Num.bitsOf]; omega) (by simp [Num.bitsOf]; omega) _ _ e9)
  rw [show (70 : Int) + 9 = 79 from rfl] at E9
  clear hq hr hqs hl1 hg1 hm1 hn1 hl2 hg2 hm2 hn2 e0 e1 e2 e3 e4 e5 e6 e7 e8 e9 fa fb
  obtain ⟨q0, q1, q2, q3, q4⟩ := hq1
  have t0 : (q + r != 1) = false := by simp; omega
  have t1 : (l1 + g1 + q != 1) = false := by simp; omega
  have t2 : (m1 != l1 + q) = false := by simp; omega
  have t3 : (n1 != g1 + q) = false := by simp; omega
  have t4 : (l2 + g2 + q != 1) = false := by simp; omega
  have t5 : (m2 != l2 + q) = false := by simp; omega
  have t6 : (n2 != g2 + q) = false := by simp; omega
  clear q2 s1 s2 s3 u1 u2 u3
  obtain ⟨a0, a1⟩ := ha
  obtain ⟨c0, c1⟩ := hb
  go_enter Tryd.func7, Tryd.ntmps7
  go_wp2_with fail
  refine (HU.out _).mono ?_
  rintro e w1 ⟨rfl, hb1⟩
  have hs2 : Sl (w1.alloc (.cells #[.int .u64 (a % 4294967296), .int .u64 (b % 4294967296)] 28)) (w1.alloc (.cells #[.int .u64 (a % 4294967296), .int .u64 (b % 4294967296)] 28)).heap.size (some ⟨w1.heap.size, 0, none⟩) (u64s [(a % 4294967296), (b % 4294967296)]) := HL.out w1
  have hb2 := hb1.alloc hb1.size (.cells #[.int .u64 (a % 4294967296), .int .u64 (b % 4294967296)] 28)
  clear hb1
  go_wp2_with fail
  with_reducible refine (E0.out _ _ hs2).mono ?_
  rintro e w3 ⟨rfl, hs3, hb3⟩
  replace hb3 := hb2.trans (hb3.mono hb2.size)
  clear hs2 hb2
  go_wp2_with fail
  with_reducible refine (E1.out _ _ hs3).mono ?_
  rintro e w4 ⟨rfl, hs4, hb4⟩
  replace hb4 := hb3.trans (hb4.mono hb3.size)
  clear hs3 hb3
  go_wp2
  refine wp_loop_rounds 3 ?_
  rw [rounds_succ]
  go_wp2_with fail
  with_reducible refine (E2.out _ _ hs4).mono ?_
  rintro e w5 ⟨rfl, hs5, hb5⟩
  replace hb5 := hb4.trans (hb5.mono hb4.size)
  clear hs4 hb4
  go_wp2_with fail
  with_reducible refine (E4.out _ _ hs5).mono ?_
  rintro e w6 ⟨rfl, hs6, hb6⟩
  replace hb6 := hb5.trans (hb6.mono hb5.size)
  clear hs5 hb5
  go_wp2_with fail
  with_reducible refine (E6.out _ _ hs6).mono ?_
  rintro e w7 ⟨rfl, hs7, hb7⟩
  replace hb7 := hb6.trans (hb7.mono hb6.size)
  clear hs6 hb6
  go_wp2_with fail
  with_reducible refine (E8.out _ _ hs7).mono ?_
  rintro e w8 ⟨rfl, hs8, hb8⟩
  replace hb8 := hb7.trans (hb8.mono hb7.size)
  clear hs7 hb7
  go_wp2
  rw [rounds_succ]
  go_wp2_with fail
  with_reducible refine (E3.out _ _ hs8).mono ?_
  rintro e w9 ⟨rfl, hs9, hb9⟩
  replace hb9 := hb8.trans (hb9.mono hb8.size)
  clear hs8 hb8
  go_wp2_with fail
  with_reducible refine (E5.out _ _ hs9).mono ?_
  rintro e w10 ⟨rfl, hs10, hb10⟩
  replace hb10 := hb9.trans (hb10.mono hb9.size)
  clear hs9 hb9
  go_wp2_with fail
  with_reducible refine (E7.out _ _ hs10).mono ?_
  rintro e w11 ⟨rfl, hs11, hb11⟩
  replace hb11 := hb10.trans (hb11.mono hb10.size)
  clear hs10 hb10
  go_wp2_with fail
  with_reducible refine (E9.out _ _ hs11).mono ?_
  rintro e w12 ⟨rfl, hs12, hb12⟩
  replace hb12 := hb11.trans (hb12.mono hb11.size)
  clear hs11 hb11
  go_wp2
  rw [rounds_succ]
  go_wp2
  go_ret
  exact ⟨rfl, hb12⟩

set_option maxHeartbeats 8000000 in
set_option maxRecDepth 100000 in
theorem order64 (a b : Int) (w : World) (ha : 0 ≤ a ∧ a < 18446744073709551616) (hb : 0 ≤ b ∧ b < 18446744073709551616) :
    Calls Tryd.prog 7 #[.int .u64 a, .int .u64 b, .bool true] w fun e w' => e = .returned (.bool true) ∧ Below w.heap.size w w' := by
  have fa : Fit 64 a := .inr ⟨rfl, by omega, by omega⟩
  have fb : Fit 64 b := .inr ⟨rfl, by omega, by omega⟩
  obtain ⟨q, hq⟩ : ∃ q, q = Num.tr (decide (a = b)) := ⟨_, rfl⟩
  obtain ⟨r, hr⟩ : ∃ r, r = Num.tr (decide (a ≠ b)) := ⟨_, rfl⟩
  have hq1 : 0 ≤ q ∧ q ≤ 1 ∧ q + r = 1 ∧ 0 ≤ r ∧ r ≤ 1 := by
    rw [hq, hr]
    by_cases h : a = b <;> simp [h, Num.tr]
  have hqs : q = Num.tr (decide (Num.sg 64 a = Num.sg 64 b)) := by
    rw [hq]
    congr 1
    rw [Bool.eq_iff_iff]
    simp only [decide_eq_true_eq]
    exact ⟨fun h => by rw [h], fun h => sg_inj fa fb h⟩
  obtain ⟨l1, g1, m1, n1, hl1, hg1, hm1, hn1, b1, b2, b3, b4, s1, s2, s3⟩ := three (Num.sg 64 a) (Num.sg 64 b) q hqs
  obtain ⟨l2, g2, m2, n2, hl2, hg2, hm2, hn2, d1, d2, d3, d4, u1, u2, u3⟩ := three a b q hq
  have e0 : Num.ev2 81 a b = (q, 0) := by rw [hq]; rfl
  have e1 : Num.ev2 (81 + 1) a b = (r, 0) := by rw [hr]; rfl
  have e2 : Num.ev2 (81 + 2) a b = (l1, 0) := by rw [← hl1]; rfl
  have e3 : Num.ev2 (81 + 3) a b = (l2, 0) := by rw [← hl2]; rfl
  have e4 : Num.ev2 (81 + 4) a b = (g1, 0) := by rw [← hg1]; rfl
  have e5 : Num.ev2 (81 + 5) a b = (g2, 0) := by rw [← hg2]; rfl
  have e6 : Num.ev2 (81 + 6) a b = (m1, 0) := by rw [← hm1]; rfl
  have e7 : Num.ev2 (81 + 7) a b = (m2, 0) := by rw [← hm2]; rfl
  have e8 : Num.ev2 (81 + 8) a b = (n1, 0) := by rw [← hn1]; rfl
  have e9 : Num.ev2 (81 + 9) a b = (n2, 0) := by rw [← hn2]; rfl
  have HU := Lib.hid (fun w => up_any w)
  have HL := Lib.hid (fun w => Sl.lit64 w [a, b] 28)
  have E0 := Lib.hid (fun A w => ev_sl2 81 a b A w (by decide) (by decide) (by simp [Num.bitsOf]; omega) (by simp [Num.bitsOf]; omega) _ _ e0)
  have E1 := Lib.hid (fun A w => ev_sl2 (81 + 1) a b A w (by decide) (by decide) (by simp [Num.bitsOf]; omega) (by simp [Num.bitsOf]; omega) _ _ e1)
  rw [show (81 : Int) + 1 = 82 from rfl] at E1
  have E2 := Lib.hid (fun A w => ev_sl2 (81 + 2) a b A w (by decide) (by decide) (by simp [Num.bitsOf]; omega) (by simp [Num.bitsOf]; omega) _ _ e2)
  rw [show (81 : Int) + 2 = 83 from rfl] at E2
  have E3 := Lib.hid (fun A w => ev_sl2 (81 + 3) a b A w (by decide) (by decide) (by simp [Num.bitsOf]; omega) (by simp [Num.bitsOf]; omega) _ _ e3)
  rw [show (81 : Int) + 3 = 84 from rfl] at E3
  have E4 := Lib.hid (fun A w => ev_sl2 (81 + 4) a b A w (by decide) (by decide) (by simp [Num.bitsOf]; omega) (by simp [Num.bitsOf]; omega) _ _ e4)
  rw [show (81 : Int) + 4 = 85 from rfl] at E4
  have E5 := Lib.hid (fun A w => ev_sl2 (81 + 5) a b A w (by decide) (by decide) (by simp [Num.bitsOf]; omega) (by simp [Num.bitsOf]; omega) _ _ e5)
  rw [show (81 : Int) + 5 = 86 from rfl] at E5
  have E6 := Lib.hid (fun A w => ev_sl2 (81 + 6) a b A w (by decide) (by decide) (by simp [Num.bitsOf]; omega) (by simp [Num.bitsOf]; omega) _ _ e6)
  rw [show (81 : Int) + 6 = 87 from rfl] at E6
  have E7 := Lib.hid (fun A w => ev_sl2 (81 + 7) a b A w (by decide) (by decide) (by simp [Num.bitsOf]; omega) (by simp [Num.bitsOf]; omega) _ _ e7)
  rw [show (81 : Int) + 7 = 88 from rfl] at E7
  have E8 := Lib.hid (fun A w => ev_sl2 (81 + 8) a b A w (by decide) (by decide) (by simp [Num.bitsOf]; omega) (by simp [Num.bitsOf]; omega) _ _ e8)
  rw [show (81 : Int) + 8 = 89 from rfl] at E8
  have E9 := Lib.hid (fun A w => ev_sl2 (81 + 9) a b A w (by decide) (by decide) (by simp [Num.bitsOf]; omega) (by simp [Num.bitsOf]; omega) _ _ e9)
  rw [show (81 : Int) + 9 = 90 from rfl] at E9
  clear hq hr hqs hl1 hg1 hm1 hn1 hl2 hg2 hm2 hn2 e0 e1 e2 e3 e4 e5 e6 e7 e8 e9 fa fb
  obtain ⟨q0, q1, q2, q3, q4⟩ := hq1
  have t0 : (q + r != 1) = false := by simp; omega
  have t1 : (l1 + g1 + q != 1) = false := by simp; omega
  have t2 : (m1 != l1 + q) = false := by simp; omega
  have t3 : (n1 != g1 + q) = false := by simp; omega
  have t4 : (l2 + g2 + q != 1) = false := by simp; omega
  have t5 : (m2 != l2 + q) = false := by simp; omega
  have t6 : (n2 != g2 + q) = false := by simp; omega
  clear q2 s1 s2 s3 u1 u2 u3
  obtain ⟨a0, a1⟩ := ha
  obtain ⟨c0, c1⟩ := hb
  go_enter Tryd.func7, Tryd.ntmps7
  go_wp2_with fail
  refine (HU.out _).mono ?_
  rintro e w1 ⟨rfl, hb1⟩
  have hs2 : Sl (w1.alloc (.cells #[.int .u64 a, .int .u64 b] 28)) (w1.alloc (.cells #[.int .u64 a, .int .u64 b] 28)).heap.size (some ⟨w1.heap.size, 0, none⟩) (u64s [a, b]) := HL.out w1
  have hb2 := hb1.alloc hb1.size (.cells #[.int .u64 a, .int .u64 b] 28)
  clear hb1
  go_wp2_with fail
  with_reducible refine (E0.out _ _ hs2).mono ?_
  rintro e w3 ⟨rfl, hs3, hb3⟩
  replace hb3 := hb2.trans (hb3.mono hb2.size)
  clear hs2 hb2
  go_wp2_with fail
  with_reducible refine (E1.out _ _ hs3).mono ?_
  rintro e w4 ⟨rfl, hs4, hb4⟩
  replace hb4 := hb3.trans (hb4.mono hb3.size)
  clear hs3 hb3
  go_wp2
  refine wp_loop_rounds 3 ?_
  rw [rounds_succ]
  go_wp2_with fail
  with_reducible refine (E2.out _ _ hs4).mono ?_
  rintro e w5 ⟨rfl, hs5, hb5⟩
  replace hb5 := hb4.trans (hb5.mono hb4.size)
  clear hs4 hb4
  go_wp2_with fail
  with_reducible refine (E4.out _ _ hs5).mono ?_
  rintro e w6 ⟨rfl, hs6, hb6⟩
  replace hb6 := hb5.trans (hb6.mono hb5.size)
  clear hs5 hb5
  go_wp2_with fail
  with_reducible refine (E6.out _ _ hs6).mono ?_
  rintro e w7 ⟨rfl, hs7, hb7⟩
  replace hb7 := hb6.trans (hb7.mono hb6.size)
  clear hs6 hb6
  go_wp2_with fail
  with_reducible refine (E8.out _ _ hs7).mono ?_
  rintro e w8 ⟨rfl, hs8, hb8⟩
  replace hb8 := hb7.trans (hb8.mono hb7.size)
  clear hs7 hb7
  go_wp2
  rw [rounds_succ]
  go_wp2_with fail
  with_reducible refine (E3.out _ _ hs8).mono ?_
  rintro e w9 ⟨rfl, hs9, hb9⟩
  replace hb9 := hb8.trans (hb9.mono hb8.size)
  clear hs8 hb8
  go_wp2_with fail
  with_reducible refine (E5.out _ _ hs9).mono ?_
  rintro e w10 ⟨rfl, hs10, hb10⟩
  replace hb10 := hb9.trans (hb10.mono hb9.size)
  clear hs9 hb9
  go_wp2_with fail
  with_reducible refine (E7.out _ _ hs10).mono ?_
  rintro e w11 ⟨rfl, hs11, hb11⟩
  replace hb11 := hb10.trans (hb11.mono hb10.size)
  clear hs10 hb10
  go_wp2_with fail
  with_reducible refine (E9.out _ _ hs11).mono ?_
  rintro e w12 ⟨rfl, hs12, hb12⟩
  replace hb12 := hb11.trans (hb12.mono hb11.size)
  clear hs11 hb11
  go_wp2
  rw [rounds_succ]
  go_wp2
  go_ret
  exact ⟨rfl, hb12⟩

theorem walk_NumOrder (a b : Int) (wide : Bool) (w : World) (ha : (Lit.int .u64 a).wf = true) (hb : (Lit.int .u64 b).wf = true) (_ : TabT w) :
    Calls Tryd.prog 7 #[.int .u64 a, .int .u64 b, .bool wide] w fun e w' => e = .returned (.bool true) ∧ Below w.heap.size w w' := by
  have h1 := bounds_u64 ha
  have h2 := bounds_u64 hb
  cases wide
  · exact order32 a b w (by omega) (by omega)
  · exact order64 a b w (by omega) (by omega)

end Go.Proofs.YtdenmbigdklhkaaDoor
