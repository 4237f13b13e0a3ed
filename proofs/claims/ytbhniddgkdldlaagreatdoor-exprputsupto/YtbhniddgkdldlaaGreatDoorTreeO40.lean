/- The reference's one, by the operation's kind. -/
import Derived.Test.YtbhniddgkdldlaaGreatDoorTreeG0
set_option linter.unusedVariables false
set_option linter.unusedSimpArgs false
namespace Go.Proofs.YtbhniddgkdldlaaGreatDoor
open Go.RowKit Trx

set_option maxHeartbeats 16000000 in
set_option maxRecDepth 100000 in
theorem one_j12 (a b v t : Int) (L : List Int) (body els : Fo) (AL Ab Ae : Option Addr) (cL cb ce : Nat) (he : Bool) (w : World) (hk : knd 12 = 3) 
    (hL : Sl w w.heap.size AL (n64s L)) (mL : L.length ≤ maxLen)
    (HB : ∀ w', Below w.heap.size w w' → Calls Tryz.prog 11 #[.slice Ab (len body) cb] w' fun e w'' => e = .returned (.bool (may body)) ∧ Below w'.heap.size w' w'')
    (HE : ∀ w', Below w.heap.size w w' → Calls Tryz.prog 11 #[.slice Ae (len els) ce] w' fun e w'' => e = .returned (.bool (may els)) ∧ Below w'.heap.size w' w'') :
    Calls Tryz.prog 22 #[.agg #[.int .i64 12, .int .i64 a, .int .i64 b, .int .u64 v, .int .i64 t, .slice AL L.length cL, .slice Ab (len body) cb, .slice Ae (len els) ce, .bool he]] w
      fun e w' => e = .returned (.bool (fit 12 a b v t L (isNil body) (isNil els) he && may body && may els)) ∧ Below w.heap.size w w' := by
  have HK := Lib.hid (Kind_any 12)
  rw [hk] at HK
  have HKn := Lib.hid hk
  have HS := Lib.hid hL
  have HBm := Lib.hid HB
  have HEm := Lib.hid HE
  have HNa := Lib.hid number_any
  have n0 : num32 0 = true := rfl
  rw [isNil_len, isNil_len]
  obtain ⟨lb, hlb⟩ : ∃ l, l = len body := ⟨_, rfl⟩
  obtain ⟨le, hle⟩ : ∃ l, l = len els := ⟨_, rfl⟩
  rw [← hlb] at HBm ⊢
  rw [← hle] at HEm ⊢
  generalize may body = mb at HBm ⊢
  generalize may els = me at HEm ⊢
  obtain ⟨r, hr⟩ : ∃ r, r = (fit 12 a b v t L (decide (lb = 0)) (decide (le = 0)) he && mb && me) := ⟨_, rfl⟩
  rw [← hr]
  have HR := Lib.hid hr
  clear HB HE hL hk hlb hle hr
  unfold maxLen at mL
  by_cases hl : L = []
  · subst hl
    cases he
    all_goals
      go_enter Tryz.func22, Tryz.ntmps22
      go_wp2_with
      (first
        | (go_at_call 34; refine (HK.out _).mono ?_; rintro e w1 ⟨rfl, hb1⟩; obtain ⟨hlt1, q0, q1, q2, q3, q4, q5, q6, q7, q8, -, hw1⟩ := nineB hb1; have HW := Lib.hid hw1; clear hb1 hw1)
        | (go_at_call 35; ((with_reducible refine (HNa.out _ _).mono ?_); rintro e w' ⟨rfl, rfl⟩)))
      all_goals first
        | (go_ret; exact ⟨by rw [HR.out]; (first | (simp [fit, HKn.out, *]; done) | (simp [fit, HKn.out, *]; intros; omega) | (simp [fit, *]; done)), HW.out⟩)
        | skip
      all_goals
        subst_vars
        refine wp_loop_rounds 1 ?_
        rw [rounds_succ]
        go_wp2_with (first
          | (go_at_call 11; ((with_reducible refine (HBm.out _ HW.out).mono ?_); rintro e w2 ⟨rfl, hb2⟩; have k7 := cell_later q7 hb2; have hlt2 := Nat.lt_of_lt_of_le hlt1 hb2.size; have HW2 := Lib.hid (HW.out.trans (hb2.mono HW.out.size)); clear hb2))
          | (go_at_call 11; ((with_reducible refine (HEm.out _ HW2.out).mono ?_); rintro e w3 ⟨rfl, hb3⟩; have HW3 := Lib.hid (HW2.out.trans (hb3.mono HW2.out.size)); clear hb3)))
        all_goals
          go_ret
          first
          | exact ⟨by (first | (simp [fit, HKn.out, *]; done) | (simp [fit, HKn.out, *]; intros; omega) | (simp [fit, *]; done)), HW3.out⟩
          | exact ⟨by (first | (simp [fit, HKn.out, *]; done) | (simp [fit, HKn.out, *]; intros; omega) | (simp [fit, *]; done)), HW2.out⟩
  · have hp : 0 < L.length := List.length_pos_iff.2 hl
    have hp1 : decide (0 < L.length) = true := by simpa using hp
    have hp2 : ((L.length : Int) == 0) = false := by simp; omega
    cases he
    all_goals
      go_enter Tryz.func22, Tryz.ntmps22
      go_wp2_with
      (first
        | (go_at_call 34; refine (HK.out _).mono ?_; rintro e w1 ⟨rfl, hb1⟩; obtain ⟨hlt1, q0, q1, q2, q3, q4, q5, q6, q7, q8, -, hw1⟩ := nineB hb1; have HW := Lib.hid hw1; clear hb1 hw1)
        | (go_at_call 35; ((with_reducible refine (HNa.out _ _).mono ?_); rintro e w' ⟨rfl, rfl⟩)))
      all_goals (go_ret; exact ⟨by rw [HR.out]; (first | (simp [fit, HKn.out, *]; done) | (simp [fit, HKn.out, *]; intros; omega) | (simp [fit, *]; done)), HW.out⟩)

set_option maxHeartbeats 16000000 in
set_option maxRecDepth 100000 in
theorem one_j13 (a b v t : Int) (L : List Int) (body els : Fo) (AL Ab Ae : Option Addr) (cL cb ce : Nat) (he : Bool) (w : World) (hk : knd 13 = 3) 
    (hL : Sl w w.heap.size AL (n64s L)) (mL : L.length ≤ maxLen)
    (HB : ∀ w', Below w.heap.size w w' → Calls Tryz.prog 11 #[.slice Ab (len body) cb] w' fun e w'' => e = .returned (.bool (may body)) ∧ Below w'.heap.size w' w'')
    (HE : ∀ w', Below w.heap.size w w' → Calls Tryz.prog 11 #[.slice Ae (len els) ce] w' fun e w'' => e = .returned (.bool (may els)) ∧ Below w'.heap.size w' w'') :
    Calls Tryz.prog 22 #[.agg #[.int .i64 13, .int .i64 a, .int .i64 b, .int .u64 v, .int .i64 t, .slice AL L.length cL, .slice Ab (len body) cb, .slice Ae (len els) ce, .bool he]] w
      fun e w' => e = .returned (.bool (fit 13 a b v t L (isNil body) (isNil els) he && may body && may els)) ∧ Below w.heap.size w w' := by
  have HK := Lib.hid (Kind_any 13)
  rw [hk] at HK
  have HKn := Lib.hid hk
  have HS := Lib.hid hL
  have HBm := Lib.hid HB
  have HEm := Lib.hid HE
  have HNa := Lib.hid number_any
  have n0 : num32 0 = true := rfl
  rw [isNil_len, isNil_len]
  obtain ⟨lb, hlb⟩ : ∃ l, l = len body := ⟨_, rfl⟩
  obtain ⟨le, hle⟩ : ∃ l, l = len els := ⟨_, rfl⟩
  rw [← hlb] at HBm ⊢
  rw [← hle] at HEm ⊢
  generalize may body = mb at HBm ⊢
  generalize may els = me at HEm ⊢
  obtain ⟨r, hr⟩ : ∃ r, r = (fit 13 a b v t L (decide (lb = 0)) (decide (le = 0)) he && mb && me) := ⟨_, rfl⟩
  rw [← hr]
  have HR := Lib.hid hr
  clear HB HE hL hk hlb hle hr
  unfold maxLen at mL
  by_cases hl : L = []
  · subst hl
    cases he
    all_goals
      go_enter Tryz.func22, Tryz.ntmps22
      go_wp2_with
      (first
        | (go_at_call 34; refine (HK.out _).mono ?_; rintro e w1 ⟨rfl, hb1⟩; obtain ⟨hlt1, q0, q1, q2, q3, q4, q5, q6, q7, q8, -, hw1⟩ := nineB hb1; have HW := Lib.hid hw1; clear hb1 hw1)
        | (go_at_call 35; ((with_reducible refine (HNa.out _ _).mono ?_); rintro e w' ⟨rfl, rfl⟩)))
      all_goals first
        | (go_ret; exact ⟨by rw [HR.out]; (first | (simp [fit, HKn.out, *]; done) | (simp [fit, HKn.out, *]; intros; omega) | (simp [fit, *]; done)), HW.out⟩)
        | skip
      all_goals
        subst_vars
        refine wp_loop_rounds 1 ?_
        rw [rounds_succ]
        go_wp2_with (first
          | (go_at_call 11; ((with_reducible refine (HBm.out _ HW.out).mono ?_); rintro e w2 ⟨rfl, hb2⟩; have k7 := cell_later q7 hb2; have hlt2 := Nat.lt_of_lt_of_le hlt1 hb2.size; have HW2 := Lib.hid (HW.out.trans (hb2.mono HW.out.size)); clear hb2))
          | (go_at_call 11; ((with_reducible refine (HEm.out _ HW2.out).mono ?_); rintro e w3 ⟨rfl, hb3⟩; have HW3 := Lib.hid (HW2.out.trans (hb3.mono HW2.out.size)); clear hb3)))
        all_goals
          go_ret
          first
          | exact ⟨by (first | (simp [fit, HKn.out, *]; done) | (simp [fit, HKn.out, *]; intros; omega) | (simp [fit, *]; done)), HW3.out⟩
          | exact ⟨by (first | (simp [fit, HKn.out, *]; done) | (simp [fit, HKn.out, *]; intros; omega) | (simp [fit, *]; done)), HW2.out⟩
  · have hp : 0 < L.length := List.length_pos_iff.2 hl
    have hp1 : decide (0 < L.length) = true := by simpa using hp
    have hp2 : ((L.length : Int) == 0) = false := by simp; omega
    cases he
    all_goals
      go_enter Tryz.func22, Tryz.ntmps22
      go_wp2_with
      (first
        | (go_at_call 34; refine (HK.out _).mono ?_; rintro e w1 ⟨rfl, hb1⟩; obtain ⟨hlt1, q0, q1, q2, q3, q4, q5, q6, q7, q8, -, hw1⟩ := nineB hb1; have HW := Lib.hid hw1; clear hb1 hw1)
        | (go_at_call 35; ((with_reducible refine (HNa.out _ _).mono ?_); rintro e w' ⟨rfl, rfl⟩)))
      all_goals (go_ret; exact ⟨by rw [HR.out]; (first | (simp [fit, HKn.out, *]; done) | (simp [fit, HKn.out, *]; intros; omega) | (simp [fit, *]; done)), HW.out⟩)

set_option maxHeartbeats 16000000 in
set_option maxRecDepth 100000 in
theorem one_j14 (a b v t : Int) (L : List Int) (body els : Fo) (AL Ab Ae : Option Addr) (cL cb ce : Nat) (he : Bool) (w : World) (hk : knd 14 = 3) 
    (hL : Sl w w.heap.size AL (n64s L)) (mL : L.length ≤ maxLen)
    (HB : ∀ w', Below w.heap.size w w' → Calls Tryz.prog 11 #[.slice Ab (len body) cb] w' fun e w'' => e = .returned (.bool (may body)) ∧ Below w'.heap.size w' w'')
    (HE : ∀ w', Below w.heap.size w w' → Calls Tryz.prog 11 #[.slice Ae (len els) ce] w' fun e w'' => e = .returned (.bool (may els)) ∧ Below w'.heap.size w' w'') :
    Calls Tryz.prog 22 #[.agg #[.int .i64 14, .int .i64 a, .int .i64 b, .int .u64 v, .int .i64 t, .slice AL L.length cL, .slice Ab (len body) cb, .slice Ae (len els) ce, .bool he]] w
      fun e w' => e = .returned (.bool (fit 14 a b v t L (isNil body) (isNil els) he && may body && may els)) ∧ Below w.heap.size w w' := by
  have HK := Lib.hid (Kind_any 14)
  rw [hk] at HK
  have HKn := Lib.hid hk
  have HS := Lib.hid hL
  have HBm := Lib.hid HB
  have HEm := Lib.hid HE
  have HNa := Lib.hid number_any
  have n0 : num32 0 = true := rfl
  rw [isNil_len, isNil_len]
  obtain ⟨lb, hlb⟩ : ∃ l, l = len body := ⟨_, rfl⟩
  obtain ⟨le, hle⟩ : ∃ l, l = len els := ⟨_, rfl⟩
  rw [← hlb] at HBm ⊢
  rw [← hle] at HEm ⊢
  generalize may body = mb at HBm ⊢
  generalize may els = me at HEm ⊢
  obtain ⟨r, hr⟩ : ∃ r, r = (fit 14 a b v t L (decide (lb = 0)) (decide (le = 0)) he && mb && me) := ⟨_, rfl⟩
  rw [← hr]
  have HR := Lib.hid hr
  clear HB HE hL hk hlb hle hr
  unfold maxLen at mL
  by_cases hl : L = []
  · subst hl
    cases he
    all_goals
      go_enter Tryz.func22, Tryz.ntmps22
      go_wp2_with
      (first
        | (go_at_call 34; refine (HK.out _).mono ?_; rintro e w1 ⟨rfl, hb1⟩; obtain ⟨hlt1, q0, q1, q2, q3, q4, q5, q6, q7, q8, -, hw1⟩ := nineB hb1; have HW := Lib.hid hw1; clear hb1 hw1)
        | (go_at_call 35; ((with_reducible refine (HNa.out _ _).mono ?_); rintro e w' ⟨rfl, rfl⟩)))
      all_goals first
        | (go_ret; exact ⟨by rw [HR.out]; (first | (simp [fit, HKn.out, *]; done) | (simp [fit, HKn.out, *]; intros; omega) | (simp [fit, *]; done)), HW.out⟩)
        | skip
      all_goals
        subst_vars
        refine wp_loop_rounds 1 ?_
        rw [rounds_succ]
        go_wp2_with (first
          | (go_at_call 11; ((with_reducible refine (HBm.out _ HW.out).mono ?_); rintro e w2 ⟨rfl, hb2⟩; have k7 := cell_later q7 hb2; have hlt2 := Nat.lt_of_lt_of_le hlt1 hb2.size; have HW2 := Lib.hid (HW.out.trans (hb2.mono HW.out.size)); clear hb2))
          | (go_at_call 11; ((with_reducible refine (HEm.out _ HW2.out).mono ?_); rintro e w3 ⟨rfl, hb3⟩; have HW3 := Lib.hid (HW2.out.trans (hb3.mono HW2.out.size)); clear hb3)))
        all_goals
          go_ret
          first
          | exact ⟨by (first | (simp [fit, HKn.out, *]; done) | (simp [fit, HKn.out, *]; intros; omega) | (simp [fit, *]; done)), HW3.out⟩
          | exact ⟨by (first | (simp [fit, HKn.out, *]; done) | (simp [fit, HKn.out, *]; intros; omega) | (simp [fit, *]; done)), HW2.out⟩
  · have hp : 0 < L.length := List.length_pos_iff.2 hl
    have hp1 : decide (0 < L.length) = true := by simpa using hp
    have hp2 : ((L.length : Int) == 0) = false := by simp; omega
    obtain ⟨b0, o0, rfl, hb0, hc0⟩ := HS.out (by intro e; have := congrArg List.length e; rw [n64s_length, List.length_nil] at this; omega)
    have HC0 := Lib.hid hc0
    clear hc0
    cases he
    all_goals
      go_enter Tryz.func22, Tryz.ntmps22
      go_wp2_with
      (first
        | (go_at_call 34; refine (HK.out _).mono ?_; rintro e w1 ⟨rfl, hb1⟩; obtain ⟨hlt1, q0, q1, q2, q3, q4, q5, q6, q7, q8, -, hw1⟩ := nineB hb1; have HW := Lib.hid hw1; clear hb1 hw1)
        | (go_at_call 35; ((with_reducible refine (HNa.out _ _).mono ?_); rintro e w' ⟨rfl, rfl⟩)))
      all_goals first
        | (go_ret; exact ⟨by rw [HR.out]; (first | (simp [fit, HKn.out, *]; done) | (simp [fit, HKn.out, *]; intros; omega) | (simp [fit, *]; done)), HW.out⟩)
        | skip
      all_goals
        subst_vars
        have hb1 := Nat.lt_of_lt_of_le hb0 HW.out.size
        go_loop [7] (fun i => ∃ j : Nat, j ≤ L.length ∧ i = .int .i64 j ∧ (L.take j).all num32 = true) (fun i => L.length - (intOf i).toNat)
        case atStart => exact ⟨0, by omega, rfl, by simp⟩
        case round =>
          obtain ⟨j, hj, rfl, hall⟩ := hrel
          have HAl := Lib.hid hall
          clear hall
          by_cases hlt : j < L.length
          · have hcj := (HW.out.cell (p := ⟨b0, o0 + j, none⟩) hb0).trans (HC0.out j (by simpa using hlt))
            have hg : L[j]? = some L[j] := List.getElem?_eq_getElem hlt
            rw [show (n64s L)[j]? = some (.int .i64 L[j]) by simp [n64s, hg]] at hcj
            obtain ⟨z, hz⟩ : ∃ z, z = L[j] := ⟨_, rfl⟩
            rw [← hz] at hcj hg
            have HG := Lib.hid hg
            clear hz hg
            cases hq : num32 z
            · have HN := Lib.hid (number_any z w1)
              rw [hq] at HN
              have HQ := Lib.hid (all_false num32 L j z HG.out hq)
              clear hq
              go_wp2_with (go_at_call 35; refine HN.out.mono ?_; rintro e w' ⟨rfl, rfl⟩)
              go_ret
              exact ⟨by simp [fit, HQ.out], HW.out⟩
            · have HN := Lib.hid (number_any z w1)
              rw [hq] at HN
              have HQ := Lib.hid ((all_snoc num32 L j z HG.out HAl.out).trans hq)
              clear hq
              go_wp2_with (go_at_call 35; refine HN.out.mono ?_; rintro e w' ⟨rfl, rfl⟩)
              go_round
              case rel => exact ⟨j + 1, by omega, by go_num, HQ.out⟩
              case measure => simp [intOf]; omega
          · have HT := Lib.hid (List.take_of_length_le (l := L) (i := j) (by omega))
            have hfin : L.all num32 = true := by rw [← HAl.out, HT.out]
            have HF := Lib.hid hfin
            clear hfin
            go_wp2_with (first
              | (go_at_call 11; ((with_reducible refine (HBm.out _ HW.out).mono ?_); rintro e w2 ⟨rfl, hb2⟩; have k7 := cell_later q7 hb2; have hlt2 := Nat.lt_of_lt_of_le hlt1 hb2.size; have HW2 := Lib.hid (HW.out.trans (hb2.mono HW.out.size)); clear hb2))
              | (go_at_call 11; ((with_reducible refine (HEm.out _ HW2.out).mono ?_); rintro e w3 ⟨rfl, hb3⟩; have HW3 := Lib.hid (HW2.out.trans (hb3.mono HW2.out.size)); clear hb3)))
            all_goals
              go_ret
              first
              | exact ⟨by (first | (simp [fit, HKn.out, HF.out, *]; done) | (simp [fit, HKn.out, HF.out, *]; intros; omega)), HW3.out⟩
              | exact ⟨by (first | (simp [fit, HKn.out, HF.out, *]; done) | (simp [fit, HKn.out, HF.out, *]; intros; omega)), HW2.out⟩

set_option maxHeartbeats 16000000 in
set_option maxRecDepth 100000 in
theorem one_j15 (a b v t : Int) (L : List Int) (body els : Fo) (AL Ab Ae : Option Addr) (cL cb ce : Nat) (he : Bool) (w : World) (hk : knd 15 = 3) 
    (hL : Sl w w.heap.size AL (n64s L)) (mL : L.length ≤ maxLen)
    (HB : ∀ w', Below w.heap.size w w' → Calls Tryz.prog 11 #[.slice Ab (len body) cb] w' fun e w'' => e = .returned (.bool (may body)) ∧ Below w'.heap.size w' w'')
    (HE : ∀ w', Below w.heap.size w w' → Calls Tryz.prog 11 #[.slice Ae (len els) ce] w' fun e w'' => e = .returned (.bool (may els)) ∧ Below w'.heap.size w' w'') :
    Calls Tryz.prog 22 #[.agg #[.int .i64 15, .int .i64 a, .int .i64 b, .int .u64 v, .int .i64 t, .slice AL L.length cL, .slice Ab (len body) cb, .slice Ae (len els) ce, .bool he]] w
      fun e w' => e = .returned (.bool (fit 15 a b v t L (isNil body) (isNil els) he && may body && may els)) ∧ Below w.heap.size w w' := by
  have HK := Lib.hid (Kind_any 15)
  rw [hk] at HK
  have HKn := Lib.hid hk
  have HS := Lib.hid hL
  have HBm := Lib.hid HB
  have HEm := Lib.hid HE
  have HNa := Lib.hid number_any
  have n0 : num32 0 = true := rfl
  rw [isNil_len, isNil_len]
  obtain ⟨lb, hlb⟩ : ∃ l, l = len body := ⟨_, rfl⟩
  obtain ⟨le, hle⟩ : ∃ l, l = len els := ⟨_, rfl⟩
  rw [← hlb] at HBm ⊢
  rw [← hle] at HEm ⊢
  generalize may body = mb at HBm ⊢
  generalize may els = me at HEm ⊢
  obtain ⟨r, hr⟩ : ∃ r, r = (fit 15 a b v t L (decide (lb = 0)) (decide (le = 0)) he && mb && me) := ⟨_, rfl⟩
  rw [← hr]
  have HR := Lib.hid hr
  clear HB HE hL hk hlb hle hr
  unfold maxLen at mL
  by_cases hl : L = []
  · subst hl
    cases he
    all_goals
      go_enter Tryz.func22, Tryz.ntmps22
      go_wp2_with
      (first
        | (go_at_call 34; refine (HK.out _).mono ?_; rintro e w1 ⟨rfl, hb1⟩; obtain ⟨hlt1, q0, q1, q2, q3, q4, q5, q6, q7, q8, -, hw1⟩ := nineB hb1; have HW := Lib.hid hw1; clear hb1 hw1)
        | (go_at_call 35; ((with_reducible refine (HNa.out _ _).mono ?_); rintro e w' ⟨rfl, rfl⟩)))
      all_goals first
        | (go_ret; exact ⟨by rw [HR.out]; (first | (simp [fit, HKn.out, *]; done) | (simp [fit, HKn.out, *]; intros; omega) | (simp [fit, *]; done)), HW.out⟩)
        | skip
      all_goals
        subst_vars
        refine wp_loop_rounds 1 ?_
        rw [rounds_succ]
        go_wp2_with (first
          | (go_at_call 11; ((with_reducible refine (HBm.out _ HW.out).mono ?_); rintro e w2 ⟨rfl, hb2⟩; have k7 := cell_later q7 hb2; have hlt2 := Nat.lt_of_lt_of_le hlt1 hb2.size; have HW2 := Lib.hid (HW.out.trans (hb2.mono HW.out.size)); clear hb2))
          | (go_at_call 11; ((with_reducible refine (HEm.out _ HW2.out).mono ?_); rintro e w3 ⟨rfl, hb3⟩; have HW3 := Lib.hid (HW2.out.trans (hb3.mono HW2.out.size)); clear hb3)))
        all_goals
          go_ret
          first
          | exact ⟨by (first | (simp [fit, HKn.out, *]; done) | (simp [fit, HKn.out, *]; intros; omega) | (simp [fit, *]; done)), HW3.out⟩
          | exact ⟨by (first | (simp [fit, HKn.out, *]; done) | (simp [fit, HKn.out, *]; intros; omega) | (simp [fit, *]; done)), HW2.out⟩
  · have hp : 0 < L.length := List.length_pos_iff.2 hl
    have hp1 : decide (0 < L.length) = true := by simpa using hp
    have hp2 : ((L.length : Int) == 0) = false := by simp; omega
    cases he
    all_goals
      go_enter Tryz.func22, Tryz.ntmps22
      go_wp2_with
      (first
        | (go_at_call 34; refine (HK.out _).mono ?_; rintro e w1 ⟨rfl, hb1⟩; obtain ⟨hlt1, q0, q1, q2, q3, q4, q5, q6, q7, q8, -, hw1⟩ := nineB hb1; have HW := Lib.hid hw1; clear hb1 hw1)
        | (go_at_call 35; ((with_reducible refine (HNa.out _ _).mono ?_); rintro e w' ⟨rfl, rfl⟩)))
      all_goals (go_ret; exact ⟨by rw [HR.out]; (first | (simp [fit, HKn.out, *]; done) | (simp [fit, HKn.out, *]; intros; omega) | (simp [fit, *]; done)), HW.out⟩)

end Go.Proofs.YtbhniddgkdldlaaGreatDoor
