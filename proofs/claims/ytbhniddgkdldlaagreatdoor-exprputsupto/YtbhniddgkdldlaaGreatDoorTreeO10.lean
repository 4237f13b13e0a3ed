/- The reference's one, by the operation's kind. -/
import Derived.Test.YtbhniddgkdldlaaGreatDoorTreeG0
set_option linter.unusedVariables false
set_option linter.unusedSimpArgs false
namespace Go.Proofs.YtbhniddgkdldlaaGreatDoor
open Go.RowKit Trx

set_option maxHeartbeats 16000000 in
set_option maxRecDepth 100000 in
theorem one_other (k : Int) (op : Int) (a b v t : Int) (L : List Int) (body els : Fo) (AL Ab Ae : Option Addr) (cL cb ce : Nat) (he : Bool) (w : World) (hk : knd op = k) (k0 : (k == 0) = false) (k4 : (k == 4) = false) (k6 : (k == 6) = false) (k7 : (k == 7) = false) (k8 : (k == 8) = false) (k10 : (k == 10) = false) (k2 : (k == 2) = false) (m10 : (k != 10) = true) (m2 : (k != 2) = true) (f12 : (op == 12) = false) (f13 : (op == 13) = false) (f14 : (op == 14) = false) (f4 : (op == 4) = false) (g4 : (op != 4) = true) (f65 : (op == 65) = false)
    (hL : Sl w w.heap.size AL (n64s L)) (mL : L.length ≤ maxLen)
    (HB : ∀ w', Below w.heap.size w w' → Calls Tryz.prog 11 #[.slice Ab (len body) cb] w' fun e w'' => e = .returned (.bool (may body)) ∧ Below w'.heap.size w' w'')
    (HE : ∀ w', Below w.heap.size w w' → Calls Tryz.prog 11 #[.slice Ae (len els) ce] w' fun e w'' => e = .returned (.bool (may els)) ∧ Below w'.heap.size w' w'') :
    Calls Tryz.prog 22 #[.agg #[.int .i64 op, .int .i64 a, .int .i64 b, .int .u64 v, .int .i64 t, .slice AL L.length cL, .slice Ab (len body) cb, .slice Ae (len els) ce, .bool he]] w
      fun e w' => e = .returned (.bool (fit op a b v t L (isNil body) (isNil els) he && may body && may els)) ∧ Below w.heap.size w w' := by
  have HK := Lib.hid (Kind_any op)
  rw [hk] at HK
  have HKn := Lib.hid hk
  have HS := Lib.hid hL
  have HBm := Lib.hid HB
  have HEm := Lib.hid HE
  have HNa := Lib.hid number_any
  have n0 : num32 0 = true := rfl
  rw [isNil_len, isNil_len]
  obtain ⟨lb, hlb⟩ : ∃ l, l = len body := ⟨_, rfl⟩
  obtain ⟨le, hle⟩ : ∃ l, l = len els := ⟨_, rfl⟩
  rw [← hlb] at HBm ⊢
  rw [← hle] at HEm ⊢
  generalize may body = mb at HBm ⊢
  generalize may els = me at HEm ⊢
  obtain ⟨r, hr⟩ : ∃ r, r = (fit op a b v t L (decide (lb = 0)) (decide (le = 0)) he && mb && me) := ⟨_, rfl⟩
  rw [← hr]
  have HR := Lib.hid hr
  clear HB HE hL hk hlb hle hr
  unfold maxLen at mL
  by_cases hl : L = []
  · subst hl
    cases he
    all_goals
      go_enter Tryz.func22, Tryz.ntmps22
      go_wp2_with
      (first
        | (go_at_call 34; refine (HK.out _).mono ?_; rintro e w1 ⟨rfl, hb1⟩; obtain ⟨hlt1, q0, q1, q2, q3, q4, q5, q6, q7, q8, -, hw1⟩ := nineB hb1; have HW := Lib.hid hw1; clear hb1 hw1)
        | (go_at_call 35; ((with_reducible refine (HNa.out _ _).mono ?_); rintro e w' ⟨rfl, rfl⟩)))
      all_goals first
        | (go_ret; exact ⟨by rw [HR.out]; (first | (simp [fit, HKn.out, *]; done) | (simp [fit, HKn.out, *]; intros; omega) | (simp [fit, *]; done)), HW.out⟩)
        | skip
      all_goals
        subst_vars
        refine wp_loop_rounds 1 ?_
        rw [rounds_succ]
        go_wp2_with (first
          | (go_at_call 11; ((with_reducible refine (HBm.out _ HW.out).mono ?_); rintro e w2 ⟨rfl, hb2⟩; have k7 := cell_later q7 hb2; have hlt2 := Nat.lt_of_lt_of_le hlt1 hb2.size; have HW2 := Lib.hid (HW.out.trans (hb2.mono HW.out.size)); clear hb2))
          | (go_at_call 11; ((with_reducible refine (HEm.out _ HW2.out).mono ?_); rintro e w3 ⟨rfl, hb3⟩; have HW3 := Lib.hid (HW2.out.trans (hb3.mono HW2.out.size)); clear hb3)))
        all_goals
          go_ret
          first
          | exact ⟨by (first | (simp [fit, HKn.out, *]; done) | (simp [fit, HKn.out, *]; intros; omega) | (simp [fit, *]; done)), HW3.out⟩
          | exact ⟨by (first | (simp [fit, HKn.out, *]; done) | (simp [fit, HKn.out, *]; intros; omega) | (simp [fit, *]; done)), HW2.out⟩
  · have hp : 0 < L.length := List.length_pos_iff.2 hl
    have hp1 : decide (0 < L.length) = true := by simpa using hp
    have hp2 : ((L.length : Int) == 0) = false := by simp; omega
    cases he
    all_goals
      go_enter Tryz.func22, Tryz.ntmps22
      go_wp2_with
      (first
        | (go_at_call 34; refine (HK.out _).mono ?_; rintro e w1 ⟨rfl, hb1⟩; obtain ⟨hlt1, q0, q1, q2, q3, q4, q5, q6, q7, q8, -, hw1⟩ := nineB hb1; have HW := Lib.hid hw1; clear hb1 hw1)
        | (go_at_call 35; ((with_reducible refine (HNa.out _ _).mono ?_); rintro e w' ⟨rfl, rfl⟩)))
      all_goals (go_ret; exact ⟨by rw [HR.out]; (first | (simp [fit, HKn.out, *]; done) | (simp [fit, HKn.out, *]; intros; omega) | (simp [fit, *]; done)), HW.out⟩)

set_option maxHeartbeats 16000000 in
set_option maxRecDepth 100000 in
theorem one_k4 (op : Int) (a b v t : Int) (L : List Int) (body els : Fo) (AL Ab Ae : Option Addr) (cL cb ce : Nat) (he : Bool) (w : World) (hk : knd op = 4) (f12 : (op == 12) = false) (f13 : (op == 13) = false) (f14 : (op == 14) = false) (f4 : (op == 4) = false) (g4 : (op != 4) = true) (f65 : (op == 65) = false)
    (hL : Sl w w.heap.size AL (n64s L)) (mL : L.length ≤ maxLen)
    (HB : ∀ w', Below w.heap.size w w' → Calls Tryz.prog 11 #[.slice Ab (len body) cb] w' fun e w'' => e = .returned (.bool (may body)) ∧ Below w'.heap.size w' w'')
    (HE : ∀ w', Below w.heap.size w w' → Calls Tryz.prog 11 #[.slice Ae (len els) ce] w' fun e w'' => e = .returned (.bool (may els)) ∧ Below w'.heap.size w' w'') :
    Calls Tryz.prog 22 #[.agg #[.int .i64 op, .int .i64 a, .int .i64 b, .int .u64 v, .int .i64 t, .slice AL L.length cL, .slice Ab (len body) cb, .slice Ae (len els) ce, .bool he]] w
      fun e w' => e = .returned (.bool (fit op a b v t L (isNil body) (isNil els) he && may body && may els)) ∧ Below w.heap.size w w' := by
  have HK := Lib.hid (Kind_any op)
  rw [hk] at HK
  have HKn := Lib.hid hk
  have HS := Lib.hid hL
  have HBm := Lib.hid HB
  have HEm := Lib.hid HE
  have HNa := Lib.hid number_any
  have n0 : num32 0 = true := rfl
  rw [isNil_len, isNil_len]
  obtain ⟨lb, hlb⟩ : ∃ l, l = len body := ⟨_, rfl⟩
  obtain ⟨le, hle⟩ : ∃ l, l = len els := ⟨_, rfl⟩
  rw [← hlb] at HBm ⊢
  rw [← hle] at HEm ⊢
  generalize may body = mb at HBm ⊢
  generalize may els = me at HEm ⊢
  obtain ⟨r, hr⟩ : ∃ r, r = (fit op a b v t L (decide (lb = 0)) (decide (le = 0)) he && mb && me) := ⟨_, rfl⟩
  rw [← hr]
  have HR := Lib.hid hr
  clear HB HE hL hk hlb hle hr
  unfold maxLen at mL
  by_cases hl : L = []
  · subst hl
    cases he
    all_goals
      go_enter Tryz.func22, Tryz.ntmps22
      go_wp2_with
      (first
        | (go_at_call 34; refine (HK.out _).mono ?_; rintro e w1 ⟨rfl, hb1⟩; obtain ⟨hlt1, q0, q1, q2, q3, q4, q5, q6, q7, q8, -, hw1⟩ := nineB hb1; have HW := Lib.hid hw1; clear hb1 hw1)
        | (go_at_call 35; ((with_reducible refine (HNa.out _ _).mono ?_); rintro e w' ⟨rfl, rfl⟩)))
      all_goals first
        | (go_ret; exact ⟨by rw [HR.out]; (first | (simp [fit, HKn.out, *]; done) | (simp [fit, HKn.out, *]; intros; omega) | (simp [fit, *]; done)), HW.out⟩)
        | skip
      all_goals
        subst_vars
        refine wp_loop_rounds 1 ?_
        rw [rounds_succ]
        go_wp2_with (first
          | (go_at_call 11; ((with_reducible refine (HBm.out _ HW.out).mono ?_); rintro e w2 ⟨rfl, hb2⟩; have k7 := cell_later q7 hb2; have hlt2 := Nat.lt_of_lt_of_le hlt1 hb2.size; have HW2 := Lib.hid (HW.out.trans (hb2.mono HW.out.size)); clear hb2))
          | (go_at_call 11; ((with_reducible refine (HEm.out _ HW2.out).mono ?_); rintro e w3 ⟨rfl, hb3⟩; have HW3 := Lib.hid (HW2.out.trans (hb3.mono HW2.out.size)); clear hb3)))
        all_goals
          go_ret
          first
          | exact ⟨by (first | (simp [fit, HKn.out, *]; done) | (simp [fit, HKn.out, *]; intros; omega) | (simp [fit, *]; done)), HW3.out⟩
          | exact ⟨by (first | (simp [fit, HKn.out, *]; done) | (simp [fit, HKn.out, *]; intros; omega) | (simp [fit, *]; done)), HW2.out⟩
  · have hp : 0 < L.length := List.length_pos_iff.2 hl
    have hp1 : decide (0 < L.length) = true := by simpa using hp
    have hp2 : ((L.length : Int) == 0) = false := by simp; omega
    cases he
    all_goals
      go_enter Tryz.func22, Tryz.ntmps22
      go_wp2_with
      (first
        | (go_at_call 34; refine (HK.out _).mono ?_; rintro e w1 ⟨rfl, hb1⟩; obtain ⟨hlt1, q0, q1, q2, q3, q4, q5, q6, q7, q8, -, hw1⟩ := nineB hb1; have HW := Lib.hid hw1; clear hb1 hw1)
        | (go_at_call 35; ((with_reducible refine (HNa.out _ _).mono ?_); rintro e w' ⟨rfl, rfl⟩)))
      all_goals (go_ret; exact ⟨by rw [HR.out]; (first | (simp [fit, HKn.out, *]; done) | (simp [fit, HKn.out, *]; intros; omega) | (simp [fit, *]; done)), HW.out⟩)

set_option maxHeartbeats 16000000 in
set_option maxRecDepth 100000 in
theorem one_k6 (op : Int) (a b v t : Int) (L : List Int) (body els : Fo) (AL Ab Ae : Option Addr) (cL cb ce : Nat) (he : Bool) (w : World) (hk : knd op = 6) (f12 : (op == 12) = false) (f13 : (op == 13) = false) (f14 : (op == 14) = false) (f4 : (op == 4) = false) (g4 : (op != 4) = true) (f65 : (op == 65) = false)
    (hL : Sl w w.heap.size AL (n64s L)) (mL : L.length ≤ maxLen)
    (HB : ∀ w', Below w.heap.size w w' → Calls Tryz.prog 11 #[.slice Ab (len body) cb] w' fun e w'' => e = .returned (.bool (may body)) ∧ Below w'.heap.size w' w'')
    (HE : ∀ w', Below w.heap.size w w' → Calls Tryz.prog 11 #[.slice Ae (len els) ce] w' fun e w'' => e = .returned (.bool (may els)) ∧ Below w'.heap.size w' w'') :
    Calls Tryz.prog 22 #[.agg #[.int .i64 op, .int .i64 a, .int .i64 b, .int .u64 v, .int .i64 t, .slice AL L.length cL, .slice Ab (len body) cb, .slice Ae (len els) ce, .bool he]] w
      fun e w' => e = .returned (.bool (fit op a b v t L (isNil body) (isNil els) he && may body && may els)) ∧ Below w.heap.size w w' := by
  have HK := Lib.hid (Kind_any op)
  rw [hk] at HK
  have HKn := Lib.hid hk
  have HS := Lib.hid hL
  have HBm := Lib.hid HB
  have HEm := Lib.hid HE
  have HNa := Lib.hid number_any
  have n0 : num32 0 = true := rfl
  rw [isNil_len, isNil_len]
  obtain ⟨lb, hlb⟩ : ∃ l, l = len body := ⟨_, rfl⟩
  obtain ⟨le, hle⟩ : ∃ l, l = len els := ⟨_, rfl⟩
  rw [← hlb] at HBm ⊢
  rw [← hle] at HEm ⊢
  generalize may body = mb at HBm ⊢
  generalize may els = me at HEm ⊢
  obtain ⟨r, hr⟩ : ∃ r, r = (fit op a b v t L (decide (lb = 0)) (decide (le = 0)) he && mb && me) := ⟨_, rfl⟩
  rw [← hr]
  have HR := Lib.hid hr
  clear HB HE hL hk hlb hle hr
  unfold maxLen at mL
  by_cases hl : L = []
  · subst hl
    cases he
    all_goals
      go_enter Tryz.func22, Tryz.ntmps22
      go_wp2_with
      (first
        | (go_at_call 34; refine (HK.out _).mono ?_; rintro e w1 ⟨rfl, hb1⟩; obtain ⟨hlt1, q0, q1, q2, q3, q4, q5, q6, q7, q8, -, hw1⟩ := nineB hb1; have HW := Lib.hid hw1; clear hb1 hw1)
        | (go_at_call 35; ((with_reducible refine (HNa.out _ _).mono ?_); rintro e w' ⟨rfl, rfl⟩)))
      all_goals first
        | (go_ret; exact ⟨by rw [HR.out]; (first | (simp [fit, HKn.out, *]; done) | (simp [fit, HKn.out, *]; intros; omega) | (simp [fit, *]; done)), HW.out⟩)
        | skip
      all_goals
        subst_vars
        refine wp_loop_rounds 1 ?_
        rw [rounds_succ]
        go_wp2_with (first
          | (go_at_call 11; ((with_reducible refine (HBm.out _ HW.out).mono ?_); rintro e w2 ⟨rfl, hb2⟩; have k7 := cell_later q7 hb2; have hlt2 := Nat.lt_of_lt_of_le hlt1 hb2.size; have HW2 := Lib.hid (HW.out.trans (hb2.mono HW.out.size)); clear hb2))
          | (go_at_call 11; ((with_reducible refine (HEm.out _ HW2.out).mono ?_); rintro e w3 ⟨rfl, hb3⟩; have HW3 := Lib.hid (HW2.out.trans (hb3.mono HW2.out.size)); clear hb3)))
        all_goals
          go_ret
          first
          | exact ⟨by (first | (simp [fit, HKn.out, *]; done) | (simp [fit, HKn.out, *]; intros; omega) | (simp [fit, *]; done)), HW3.out⟩
          | exact ⟨by (first | (simp [fit, HKn.out, *]; done) | (simp [fit, HKn.out, *]; intros; omega) | (simp [fit, *]; done)), HW2.out⟩
  · have hp : 0 < L.length := List.length_pos_iff.2 hl
    have hp1 : decide (0 < L.length) = true := by simpa using hp
    have hp2 : ((L.length : Int) == 0) = false := by simp; omega
    cases he
    all_goals
      go_enter Tryz.func22, Tryz.ntmps22
      go_wp2_with
      (first
        | (go_at_call 34; refine (HK.out _).mono ?_; rintro e w1 ⟨rfl, hb1⟩; obtain ⟨hlt1, q0, q1, q2, q3, q4, q5, q6, q7, q8, -, hw1⟩ := nineB hb1; have HW := Lib.hid hw1; clear hb1 hw1)
        | (go_at_call 35; ((with_reducible refine (HNa.out _ _).mono ?_); rintro e w' ⟨rfl, rfl⟩)))
      all_goals (go_ret; exact ⟨by rw [HR.out]; (first | (simp [fit, HKn.out, *]; done) | (simp [fit, HKn.out, *]; intros; omega) | (simp [fit, *]; done)), HW.out⟩)

end Go.Proofs.YtbhniddgkdldlaaGreatDoor
