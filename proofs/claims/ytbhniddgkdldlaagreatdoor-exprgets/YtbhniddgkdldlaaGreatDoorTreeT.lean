/- Contracts of tree.isBlock and tree.Count: of whatever reads as a list of trees. -/
import Derived.Test.YtbhniddgkdldlaaGreatDoorTreeA
import Derived.Test.YtbhniddgkdldlaaGreatDoorOpT
set_option linter.unusedVariables false
set_option linter.unusedSimpArgs false
namespace Go.Proofs.YtbhniddgkdldlaaGreatDoor
open Go.RowKit Trx

theorem wr4' (n a b : Nat) : wrap64 (wrap64 (n : Int) + wrap64 (wrap64 (1 + wrap64 (a : Int)) + wrap64 (b : Int))) = wrap64 ((n + 1 + a + b : Nat) : Int) := by
  unfold wrap64; omega

theorem kd_two (b : Int) : (Opx.kd b == 2) = (decide (2 ≤ b) && decide (b ≤ 4)) := by
  unfold Opx.kd
  rw [Bool.eq_iff_iff]
  simp
  (repeat' split) <;> omega
theorem nm_blk (b : Int) (h : isBlk b = true) : Opx.nm b ≠ [] ∧ Opx.flt b = false := by
  simp [isBlk] at h
  have : b = 2 ∨ b = 3 ∨ b = 4 := by omega
  rcases this with rfl | rfl | rfl <;> decide


/-- a new block of nine cells, behind a call that changes nothing older. -/
theorem nineB {w0 w : World} {a0 a1 a2 a3 a4 a5 a6 a7 a8 : Value} {t : TypeId} (h : Below (w0.alloc (.cells #[a0, a1, a2, a3, a4, a5, a6, a7, a8] t)).heap.size (w0.alloc (.cells #[a0, a1, a2, a3, a4, a5, a6, a7, a8] t)) w) :
    (w0.heap.size < w.heap.size) ∧ (w.cell? ⟨w0.heap.size, 0, none⟩ = some a0) ∧ (w.cell? ⟨w0.heap.size, 1, none⟩ = some a1) ∧ (w.cell? ⟨w0.heap.size, 2, none⟩ = some a2) ∧ (w.cell? ⟨w0.heap.size, 3, none⟩ = some a3) ∧
    (w.cell? ⟨w0.heap.size, 4, none⟩ = some a4) ∧ (w.cell? ⟨w0.heap.size, 5, none⟩ = some a5) ∧ (w.cell? ⟨w0.heap.size, 6, none⟩ = some a6) ∧ (w.cell? ⟨w0.heap.size, 7, none⟩ = some a7) ∧ (w.cell? ⟨w0.heap.size, 8, none⟩ = some a8) ∧
    (∀ i, w.frozen? ⟨w0.heap.size, i, none⟩ = false) ∧ Below w0.heap.size w0 w := by
  have hc : ∀ i, w.cell? ⟨w0.heap.size, i, none⟩ = (#[a0, a1, a2, a3, a4, a5, a6, a7, a8] : Array Value)[i]? := fun i => (h.cell (p := ⟨w0.heap.size, i, none⟩) (by simp)).trans (World.cell?_alloc_at _ _ _ _ rfl)
  exact ⟨by have := h.size; simp at this; omega, hc 0, hc 1, hc 2, hc 3, hc 4, hc 5, hc 6, hc 7, hc 8, fun i => (h.frozen (p := ⟨w0.heap.size, i, none⟩) (by simp)).trans (World.frozen?_alloc_at _ _ _ _ rfl),
    ((Below.refl _ _).alloc (Nat.le_refl _) _).trans (h.mono (by simp))⟩
theorem cell_later {w w' : World} {b o : Nat} {v : Value} (h : w.cell? ⟨b, o, none⟩ = some v) (hb : Below w.heap.size w w') : w'.cell? ⟨b, o, none⟩ = some v :=
  (hb.cell (p := ⟨b, o, none⟩) (World.block_lt_of_cell? _ _ h)).trans h

end Go.Proofs.YtbhniddgkdldlaaGreatDoor

/- Contracts of the small functions of tree that May comes to. -/
namespace Go.Proofs.YtbhniddgkdldlaaGreatDoor
open Go.RowKit Trx

set_option maxRecDepth 100000 in
theorem isNumber_any (n : Int) (w : World) (h : inI n) : Calls Tryz.prog 80 #[.int .i64 n] w fun e w' => e = .returned (.bool (num32 n)) ∧ w = w' := by
  unfold inI at h
  unfold num32
  by_cases h0 : 0 ≤ n
  · have t0 : decide (0 ≤ n) = true := by simpa using h0
    rw [t0]
    go_enter Tryz.func80, Tryz.ntmps80
    go_wp2_with fail
    go_ret
    exact ⟨by simp, rfl⟩
  · have t0 : decide (0 ≤ n) = false := by simpa using h0
    rw [t0]
    go_enter Tryz.func80, Tryz.ntmps80
    go_wp2_with fail
    go_ret
    exact ⟨by simp, rfl⟩
def isRes (t : Int) : Bool := t == 0 || t == 1 || t == 2
set_option maxRecDepth 100000 in
theorem isResult_any (t : Int) (w : World) : Calls Tryz.prog 78 #[.int .i64 t] w fun e w' => e = .returned (.bool (isRes t)) ∧ w = w' := by
  unfold isRes
  cases t0 : t == 0 <;> cases t1 : t == 1
  all_goals
    go_enter Tryz.func78, Tryz.ntmps78
    go_wp2_with fail
    go_ret
    exact ⟨by simp, rfl⟩
def bareB (a b v t : Int) (lL lb le : Nat) (he : Bool) : Bool := a == 0 && b == 0 && v == 0 && t == 0 && !he && decide (lL = 0) && decide (lb = 0) && decide (le = 0)
set_option maxHeartbeats 4000000 in
set_option maxRecDepth 100000 in
theorem isBare_any (op a b v t : Int) (AL Ab Ae : Option Addr) (lL cL lb cb le ce : Nat) (he : Bool) (w : World) :
    Calls Tryz.prog 51 #[.agg #[.int .i64 op, .int .i64 a, .int .i64 b, .int .u64 v, .int .i64 t, .slice AL lL cL, .slice Ab lb cb, .slice Ae le ce, .bool he]] w
      fun e w' => e = .returned (.bool (bareB a b v t lL lb le he)) ∧ Below w.heap.size w w' := by
  unfold bareB
  cases he
  all_goals
    go_enter Tryz.func51, Tryz.ntmps51
    go_wp2_with fail
    all_goals
      go_ret
      exact ⟨by first | (simp [*]; done) | (simp [*]; rw [Bool.eq_iff_iff]; simp <;> omega), (Below.refl _ _).alloc (Nat.le_refl _) _⟩

theorem all_snoc {α : Type} (P : α → Bool) (l : List α) (j : Nat) (a : α) (h : l[j]? = some a) (hj : (l.take j).all P = true) : (l.take (j + 1)).all P = P a := by
  rw [List.take_add_one, h, List.all_append, hj]; simp
theorem all_false {α : Type} (P : α → Bool) (l : List α) (j : Nat) (a : α) (h : l[j]? = some a) (ha : P a = false) : l.all P = false := by
  rw [List.all_eq_false]
  exact ⟨a, List.mem_of_getElem? h, by simp [ha]⟩

set_option maxHeartbeats 4000000 in
set_option maxRecDepth 100000 in
/-- all of a list of numbers, of isNumber. -/
theorem allInt_any (zs : List Int) (A : Option Addr) (c : Nat) (w : World) (hz : ∀ z ∈ zs, inI z) (hs : Sl w w.heap.size A (n64s zs)) (hm : zs.length ≤ maxLen) :
    Calls Tryz.prog 79 #[.slice A zs.length c, .func (.func 80) #[] #[]] w fun e w' => e = .returned (.bool (zs.all num32)) ∧ w = w' := by
  unfold maxLen at hm
  have HS := Lib.hid hs
  have HZ := Lib.hid hz
  clear hs hz
  go_enter Tryz.func79, Tryz.ntmps79
  go_wp2_with fail
  go_loop [9] (fun i => ∃ j : Nat, j ≤ zs.length ∧ i = .int .i64 j ∧ (zs.take j).all num32 = true) (fun i => zs.length - (intOf i).toNat)
  case atStart => exact ⟨0, by omega, rfl, by simp⟩
  case round =>
    obtain ⟨j, hj, rfl, hall⟩ := hrel
    have HA := Lib.hid hall
    clear hall
    by_cases hlt : j < zs.length
    · obtain ⟨b, o, rfl, hb, hc⟩ := HS.out (by intro e; have := congrArg List.length e; rw [n64s_length, List.length_nil] at this; omega)
      have hcj := hc j (by simpa using hlt)
      have hg : zs[j]? = some zs[j] := List.getElem?_eq_getElem hlt
      rw [show (n64s zs)[j]? = some (.int .i64 zs[j]) by simp [n64s, hg]] at hcj
      have hin := HZ.out _ (List.getElem_mem hlt)
      obtain ⟨z, hz⟩ : ∃ z, z = zs[j] := ⟨_, rfl⟩
      rw [← hz] at hcj hin hg
      have HG := Lib.hid hg
      clear hz hc hg
      cases hq : num32 z
      · have HN := Lib.hid (isNumber_any z w hin)
        rw [hq] at HN
        have HQ := Lib.hid (all_false num32 zs j z HG.out hq)
        clear hq
        go_wp2_with (go_at_call 80; refine HN.out.mono ?_; rintro e w' ⟨rfl, rfl⟩)
        go_ret
        exact ⟨by rw [HQ.out]; rfl, rfl⟩
      · have HN := Lib.hid (isNumber_any z w hin)
        rw [hq] at HN
        have HQ := Lib.hid ((all_snoc num32 zs j z HG.out HA.out).trans hq)
        clear hq
        go_wp2_with (go_at_call 80; refine HN.out.mono ?_; rintro e w' ⟨rfl, rfl⟩)
        go_round
        case rel => exact ⟨j + 1, by omega, by go_num, HQ.out⟩
        case measure => simp [intOf]; omega
    · have HT := Lib.hid (List.take_of_length_le (l := zs) (i := j) (by omega))
      go_wp2_with fail
      go_ret
      exact ⟨by rw [← HA.out, HT.out]; rfl, rfl⟩
end Go.Proofs.YtbhniddgkdldlaaGreatDoor

/- Contracts of tree.uncounted: by the operation's kind, a case each, then as one. -/
namespace Go.Proofs.YtbhniddgkdldlaaGreatDoor
open Go.RowKit Trx

def uA (k op a : Int) : Int := if k = 3 then (if op = 14 ∨ op = 15 then a else 0) else if k = 4 ∨ k = 6 ∨ k = 7 ∨ k = 8 then 0 else a
def uB (k b : Int) : Int := if k = 7 ∨ k = 8 then 0 else b
def uV (k v : Int) : Int := if k = 10 then 0 else v
def uT (k t : Int) : Int := if k = 2 then 0 else t
def uL (k op : Int) (l : Nat) : Nat := if k = 3 ∧ op = 14 then 0 else l
def uY (k : Int) (l : Nat) : Nat := if k = 2 then 0 else l
def uE (k op : Int) (he : Bool) (l : Nat) : Nat := if k = 2 ∧ op = 4 ∧ he = true then 0 else l
def uH (k op : Int) (he : Bool) : Bool := if k = 2 ∧ op = 4 then false else he
/-- an instruction's value. -/
def insV (op a b v t : Int) (AL Ab Ae : Option Addr) (lL cL lb cb le ce : Nat) (he : Bool) : Value :=
  .agg #[.int .i64 op, .int .i64 a, .int .i64 b, .int .u64 v, .int .i64 t, .slice AL lL cL, .slice Ab lb cb, .slice Ae le ce, .bool he]
def opA (y : Int) (nm : ByteArray) (k : Int) (At : Option Addr) (lt ct : Nat) (g z : Int) (s : Bool) : Value :=
  .agg #[.int .i64 y, .string nm, .int .i64 k, .slice At lt ct, .int .i64 g, .int .i64 z, .bool s]
theorem two_below {w w' : World} {o1 o2 o3 : Obj} (h : w' = ((w.alloc o1).alloc o2).alloc o3) : Below w.heap.size w w' := by
  subst h
  exact (((Below.refl _ _).alloc (Nat.le_refl _) _).alloc (by simp) _).alloc (by simp; omega) _

set_option maxHeartbeats 4000000 in
set_option maxRecDepth 100000 in
theorem unc_1 (a b v t y g z : Int) (op : Int) (he : Bool) (AL Ab Ae At : Option Addr) (lL cL lb cb le ce lt ct : Nat) (nm : ByteArray) (s : Bool) (w : World) (h : (op == 4) = false) :
    Calls Tryz.prog 52 #[.agg #[.int .i64 op, .int .i64 a, .int .i64 b, .int .u64 v, .int .i64 t, .slice AL lL cL, .slice Ab lb cb, .slice Ae le ce, .bool he], .agg #[.int .i64 y, .string nm, .int .i64 2, .slice At lt ct, .int .i64 g, .int .i64 z, .bool s]] w
      fun e w' => e = .returned (.agg #[.int .i64 op, .int .i64 a, .int .i64 b, .int .u64 v, .int .i64 0, .slice AL lL cL, .slice none 0 0, .slice Ae le ce, .bool he]) ∧ Below w.heap.size w w' := by
  go_enter Tryz.func52, Tryz.ntmps52
  go_wp2_with fail
  refine bodyPost_ret (v := .agg #[.int .i64 op, .int .i64 a, .int .i64 b, .int .u64 v, .int .i64 0, .slice AL lL cL, .slice none 0 0, .slice Ae le ce, .bool he]) (by simp [results, Tryz.results52, go_sem]) rfl ⟨rfl, ?_⟩
  repeat' (first | exact Below.refl _ _ | refine Below.setCell ?_ ?_ _ | refine Below.alloc ?_ ?_ _)
  all_goals (simp <;> omega)
set_option maxHeartbeats 4000000 in
set_option maxRecDepth 100000 in
theorem unc_2 (a b v t y g z : Int) (AL Ab Ae At : Option Addr) (lL cL lb cb le ce lt ct : Nat) (nm : ByteArray) (s : Bool) (w : World)  :
    Calls Tryz.prog 52 #[.agg #[.int .i64 4, .int .i64 a, .int .i64 b, .int .u64 v, .int .i64 t, .slice AL lL cL, .slice Ab lb cb, .slice Ae le ce, .bool true], .agg #[.int .i64 y, .string nm, .int .i64 2, .slice At lt ct, .int .i64 g, .int .i64 z, .bool s]] w
      fun e w' => e = .returned (.agg #[.int .i64 4, .int .i64 a, .int .i64 b, .int .u64 v, .int .i64 0, .slice AL lL cL, .slice none 0 0, .slice none 0 0, .bool false]) ∧ Below w.heap.size w w' := by
  go_enter Tryz.func52, Tryz.ntmps52
  go_wp2_with fail
  refine bodyPost_ret (v := .agg #[.int .i64 4, .int .i64 a, .int .i64 b, .int .u64 v, .int .i64 0, .slice AL lL cL, .slice none 0 0, .slice none 0 0, .bool false]) (by simp [results, Tryz.results52, go_sem]) rfl ⟨rfl, ?_⟩
  repeat' (first | exact Below.refl _ _ | refine Below.setCell ?_ ?_ _ | refine Below.alloc ?_ ?_ _)
  all_goals (simp <;> omega)
set_option maxHeartbeats 4000000 in
set_option maxRecDepth 100000 in
theorem unc_3 (a b v t y g z : Int) (AL Ab Ae At : Option Addr) (lL cL lb cb le ce lt ct : Nat) (nm : ByteArray) (s : Bool) (w : World)  :
    Calls Tryz.prog 52 #[.agg #[.int .i64 4, .int .i64 a, .int .i64 b, .int .u64 v, .int .i64 t, .slice AL lL cL, .slice Ab lb cb, .slice Ae le ce, .bool false], .agg #[.int .i64 y, .string nm, .int .i64 2, .slice At lt ct, .int .i64 g, .int .i64 z, .bool s]] w
      fun e w' => e = .returned (.agg #[.int .i64 4, .int .i64 a, .int .i64 b, .int .u64 v, .int .i64 0, .slice AL lL cL, .slice none 0 0, .slice Ae le ce, .bool false]) ∧ Below w.heap.size w w' := by
  go_enter Tryz.func52, Tryz.ntmps52
  go_wp2_with fail
  refine bodyPost_ret (v := .agg #[.int .i64 4, .int .i64 a, .int .i64 b, .int .u64 v, .int .i64 0, .slice AL lL cL, .slice none 0 0, .slice Ae le ce, .bool false]) (by simp [results, Tryz.results52, go_sem]) rfl ⟨rfl, ?_⟩
  repeat' (first | exact Below.refl _ _ | refine Below.setCell ?_ ?_ _ | refine Below.alloc ?_ ?_ _)
  all_goals (simp <;> omega)
set_option maxHeartbeats 4000000 in
set_option maxRecDepth 100000 in
theorem unc_4 (a b v t y g z : Int) (he : Bool) (AL Ab Ae At : Option Addr) (lL cL lb cb le ce lt ct : Nat) (nm : ByteArray) (s : Bool) (w : World)  :
    Calls Tryz.prog 52 #[.agg #[.int .i64 14, .int .i64 a, .int .i64 b, .int .u64 v, .int .i64 t, .slice AL lL cL, .slice Ab lb cb, .slice Ae le ce, .bool he], .agg #[.int .i64 y, .string nm, .int .i64 3, .slice At lt ct, .int .i64 g, .int .i64 z, .bool s]] w
      fun e w' => e = .returned (.agg #[.int .i64 14, .int .i64 a, .int .i64 b, .int .u64 v, .int .i64 t, .slice none 0 0, .slice Ab lb cb, .slice Ae le ce, .bool he]) ∧ Below w.heap.size w w' := by
  go_enter Tryz.func52, Tryz.ntmps52
  go_wp2_with fail
  refine bodyPost_ret (v := .agg #[.int .i64 14, .int .i64 a, .int .i64 b, .int .u64 v, .int .i64 t, .slice none 0 0, .slice Ab lb cb, .slice Ae le ce, .bool he]) (by simp [results, Tryz.results52, go_sem]) rfl ⟨rfl, ?_⟩
  repeat' (first | exact Below.refl _ _ | refine Below.setCell ?_ ?_ _ | refine Below.alloc ?_ ?_ _)
  all_goals (simp <;> omega)
set_option maxHeartbeats 4000000 in
set_option maxRecDepth 100000 in
theorem unc_5 (a b v t y g z : Int) (he : Bool) (AL Ab Ae At : Option Addr) (lL cL lb cb le ce lt ct : Nat) (nm : ByteArray) (s : Bool) (w : World)  :
    Calls Tryz.prog 52 #[.agg #[.int .i64 15, .int .i64 a, .int .i64 b, .int .u64 v, .int .i64 t, .slice AL lL cL, .slice Ab lb cb, .slice Ae le ce, .bool he], .agg #[.int .i64 y, .string nm, .int .i64 3, .slice At lt ct, .int .i64 g, .int .i64 z, .bool s]] w
      fun e w' => e = .returned (.agg #[.int .i64 15, .int .i64 a, .int .i64 b, .int .u64 v, .int .i64 t, .slice AL lL cL, .slice Ab lb cb, .slice Ae le ce, .bool he]) ∧ Below w.heap.size w w' := by
  go_enter Tryz.func52, Tryz.ntmps52
  go_wp2_with fail
  refine bodyPost_ret (v := .agg #[.int .i64 15, .int .i64 a, .int .i64 b, .int .u64 v, .int .i64 t, .slice AL lL cL, .slice Ab lb cb, .slice Ae le ce, .bool he]) (by simp [results, Tryz.results52, go_sem]) rfl ⟨rfl, ?_⟩
  repeat' (first | exact Below.refl _ _ | refine Below.setCell ?_ ?_ _ | refine Below.alloc ?_ ?_ _)
  all_goals (simp <;> omega)
set_option maxHeartbeats 4000000 in
set_option maxRecDepth 100000 in
theorem unc_6 (a b v t y g z : Int) (op : Int) (he : Bool) (AL Ab Ae At : Option Addr) (lL cL lb cb le ce lt ct : Nat) (nm : ByteArray) (s : Bool) (w : World) (t14 : (op == 14) = false) (t15 : (op == 15) = false) :
    Calls Tryz.prog 52 #[.agg #[.int .i64 op, .int .i64 a, .int .i64 b, .int .u64 v, .int .i64 t, .slice AL lL cL, .slice Ab lb cb, .slice Ae le ce, .bool he], .agg #[.int .i64 y, .string nm, .int .i64 3, .slice At lt ct, .int .i64 g, .int .i64 z, .bool s]] w
      fun e w' => e = .returned (.agg #[.int .i64 op, .int .i64 0, .int .i64 b, .int .u64 v, .int .i64 t, .slice AL lL cL, .slice Ab lb cb, .slice Ae le ce, .bool he]) ∧ Below w.heap.size w w' := by
  go_enter Tryz.func52, Tryz.ntmps52
  go_wp2_with fail
  refine bodyPost_ret (v := .agg #[.int .i64 op, .int .i64 0, .int .i64 b, .int .u64 v, .int .i64 t, .slice AL lL cL, .slice Ab lb cb, .slice Ae le ce, .bool he]) (by simp [results, Tryz.results52, go_sem]) rfl ⟨rfl, ?_⟩
  repeat' (first | exact Below.refl _ _ | refine Below.setCell ?_ ?_ _ | refine Below.alloc ?_ ?_ _)
  all_goals (simp <;> omega)
set_option maxHeartbeats 4000000 in
set_option maxRecDepth 100000 in
theorem unc_7 (a b v t y g z : Int) (op : Int) (he : Bool) (AL Ab Ae At : Option Addr) (lL cL lb cb le ce lt ct : Nat) (nm : ByteArray) (s : Bool) (w : World)  :
    Calls Tryz.prog 52 #[.agg #[.int .i64 op, .int .i64 a, .int .i64 b, .int .u64 v, .int .i64 t, .slice AL lL cL, .slice Ab lb cb, .slice Ae le ce, .bool he], .agg #[.int .i64 y, .string nm, .int .i64 4, .slice At lt ct, .int .i64 g, .int .i64 z, .bool s]] w
      fun e w' => e = .returned (.agg #[.int .i64 op, .int .i64 0, .int .i64 b, .int .u64 v, .int .i64 t, .slice AL lL cL, .slice Ab lb cb, .slice Ae le ce, .bool he]) ∧ Below w.heap.size w w' := by
  go_enter Tryz.func52, Tryz.ntmps52
  go_wp2_with fail
  refine bodyPost_ret (v := .agg #[.int .i64 op, .int .i64 0, .int .i64 b, .int .u64 v, .int .i64 t, .slice AL lL cL, .slice Ab lb cb, .slice Ae le ce, .bool he]) (by simp [results, Tryz.results52, go_sem]) rfl ⟨rfl, ?_⟩
  repeat' (first | exact Below.refl _ _ | refine Below.setCell ?_ ?_ _ | refine Below.alloc ?_ ?_ _)
  all_goals (simp <;> omega)
set_option maxHeartbeats 4000000 in
set_option maxRecDepth 100000 in
theorem unc_8 (a b v t y g z : Int) (op : Int) (he : Bool) (AL Ab Ae At : Option Addr) (lL cL lb cb le ce lt ct : Nat) (nm : ByteArray) (s : Bool) (w : World)  :
    Calls Tryz.prog 52 #[.agg #[.int .i64 op, .int .i64 a, .int .i64 b, .int .u64 v, .int .i64 t, .slice AL lL cL, .slice Ab lb cb, .slice Ae le ce, .bool he], .agg #[.int .i64 y, .string nm, .int .i64 6, .slice At lt ct, .int .i64 g, .int .i64 z, .bool s]] w
      fun e w' => e = .returned (.agg #[.int .i64 op, .int .i64 0, .int .i64 b, .int .u64 v, .int .i64 t, .slice AL lL cL, .slice Ab lb cb, .slice Ae le ce, .bool he]) ∧ Below w.heap.size w w' := by
  go_enter Tryz.func52, Tryz.ntmps52
  go_wp2_with fail
  refine bodyPost_ret (v := .agg #[.int .i64 op, .int .i64 0, .int .i64 b, .int .u64 v, .int .i64 t, .slice AL lL cL, .slice Ab lb cb, .slice Ae le ce, .bool he]) (by simp [results, Tryz.results52, go_sem]) rfl ⟨rfl, ?_⟩
  repeat' (first | exact Below.refl _ _ | refine Below.setCell ?_ ?_ _ | refine Below.alloc ?_ ?_ _)
  all_goals (simp <;> omega)
set_option maxHeartbeats 4000000 in
set_option maxRecDepth 100000 in
theorem unc_9 (a b v t y g z : Int) (op : Int) (he : Bool) (AL Ab Ae At : Option Addr) (lL cL lb cb le ce lt ct : Nat) (nm : ByteArray) (s : Bool) (w : World)  :
    Calls Tryz.prog 52 #[.agg #[.int .i64 op, .int .i64 a, .int .i64 b, .int .u64 v, .int .i64 t, .slice AL lL cL, .slice Ab lb cb, .slice Ae le ce, .bool he], .agg #[.int .i64 y, .string nm, .int .i64 7, .slice At lt ct, .int .i64 g, .int .i64 z, .bool s]] w
      fun e w' => e = .returned (.agg #[.int .i64 op, .int .i64 0, .int .i64 0, .int .u64 v, .int .i64 t, .slice AL lL cL, .slice Ab lb cb, .slice Ae le ce, .bool he]) ∧ Below w.heap.size w w' := by
  go_enter Tryz.func52, Tryz.ntmps52
  go_wp2_with fail
  refine bodyPost_ret (v := .agg #[.int .i64 op, .int .i64 0, .int .i64 0, .int .u64 v, .int .i64 t, .slice AL lL cL, .slice Ab lb cb, .slice Ae le ce, .bool he]) (by simp [results, Tryz.results52, go_sem]) rfl ⟨rfl, ?_⟩
  repeat' (first | exact Below.refl _ _ | refine Below.setCell ?_ ?_ _ | refine Below.alloc ?_ ?_ _)
  all_goals (simp <;> omega)
set_option maxHeartbeats 4000000 in
set_option maxRecDepth 100000 in
theorem unc_10 (a b v t y g z : Int) (op : Int) (he : Bool) (AL Ab Ae At : Option Addr) (lL cL lb cb le ce lt ct : Nat) (nm : ByteArray) (s : Bool) (w : World)  :
    Calls Tryz.prog 52 #[.agg #[.int .i64 op, .int .i64 a, .int .i64 b, .int .u64 v, .int .i64 t, .slice AL lL cL, .slice Ab lb cb, .slice Ae le ce, .bool he], .agg #[.int .i64 y, .string nm, .int .i64 8, .slice At lt ct, .int .i64 g, .int .i64 z, .bool s]] w
      fun e w' => e = .returned (.agg #[.int .i64 op, .int .i64 0, .int .i64 0, .int .u64 v, .int .i64 t, .slice AL lL cL, .slice Ab lb cb, .slice Ae le ce, .bool he]) ∧ Below w.heap.size w w' := by
  go_enter Tryz.func52, Tryz.ntmps52
  go_wp2_with fail
  refine bodyPost_ret (v := .agg #[.int .i64 op, .int .i64 0, .int .i64 0, .int .u64 v, .int .i64 t, .slice AL lL cL, .slice Ab lb cb, .slice Ae le ce, .bool he]) (by simp [results, Tryz.results52, go_sem]) rfl ⟨rfl, ?_⟩
  repeat' (first | exact Below.refl _ _ | refine Below.setCell ?_ ?_ _ | refine Below.alloc ?_ ?_ _)
  all_goals (simp <;> omega)
set_option maxHeartbeats 4000000 in
set_option maxRecDepth 100000 in
theorem unc_11 (a b v t y g z : Int) (op : Int) (he : Bool) (AL Ab Ae At : Option Addr) (lL cL lb cb le ce lt ct : Nat) (nm : ByteArray) (s : Bool) (w : World)  :
    Calls Tryz.prog 52 #[.agg #[.int .i64 op, .int .i64 a, .int .i64 b, .int .u64 v, .int .i64 t, .slice AL lL cL, .slice Ab lb cb, .slice Ae le ce, .bool he], .agg #[.int .i64 y, .string nm, .int .i64 10, .slice At lt ct, .int .i64 g, .int .i64 z, .bool s]] w
      fun e w' => e = .returned (.agg #[.int .i64 op, .int .i64 a, .int .i64 b, .int .u64 0, .int .i64 t, .slice AL lL cL, .slice Ab lb cb, .slice Ae le ce, .bool he]) ∧ Below w.heap.size w w' := by
  go_enter Tryz.func52, Tryz.ntmps52
  go_wp2_with fail
  refine bodyPost_ret (v := .agg #[.int .i64 op, .int .i64 a, .int .i64 b, .int .u64 0, .int .i64 t, .slice AL lL cL, .slice Ab lb cb, .slice Ae le ce, .bool he]) (by simp [results, Tryz.results52, go_sem]) rfl ⟨rfl, ?_⟩
  repeat' (first | exact Below.refl _ _ | refine Below.setCell ?_ ?_ _ | refine Below.alloc ?_ ?_ _)
  all_goals (simp <;> omega)
set_option maxHeartbeats 4000000 in
set_option maxRecDepth 100000 in
theorem unc_12 (a b v t y g z : Int) (op : Int) (k : Int) (he : Bool) (AL Ab Ae At : Option Addr) (lL cL lb cb le ce lt ct : Nat) (nm : ByteArray) (s : Bool) (w : World) (t2 : (k == 2) = false) (t3 : (k == 3) = false) (t4 : (k == 4) = false) (t6 : (k == 6) = false) (t7 : (k == 7) = false) (t8 : (k == 8) = false) (t10 : (k == 10) = false) :
    Calls Tryz.prog 52 #[.agg #[.int .i64 op, .int .i64 a, .int .i64 b, .int .u64 v, .int .i64 t, .slice AL lL cL, .slice Ab lb cb, .slice Ae le ce, .bool he], .agg #[.int .i64 y, .string nm, .int .i64 k, .slice At lt ct, .int .i64 g, .int .i64 z, .bool s]] w
      fun e w' => e = .returned (.agg #[.int .i64 op, .int .i64 a, .int .i64 b, .int .u64 v, .int .i64 t, .slice AL lL cL, .slice Ab lb cb, .slice Ae le ce, .bool he]) ∧ Below w.heap.size w w' := by
  go_enter Tryz.func52, Tryz.ntmps52
  go_wp2_with fail
  refine bodyPost_ret (v := .agg #[.int .i64 op, .int .i64 a, .int .i64 b, .int .u64 v, .int .i64 t, .slice AL lL cL, .slice Ab lb cb, .slice Ae le ce, .bool he]) (by simp [results, Tryz.results52, go_sem]) rfl ⟨rfl, ?_⟩
  repeat' (first | exact Below.refl _ _ | refine Below.setCell ?_ ?_ _ | refine Below.alloc ?_ ?_ _)
  all_goals (simp <;> omega)

set_option maxRecDepth 100000 in
/-- as one. -/
theorem unc_any (op a b v t : Int) (AL Ab Ae : Option Addr) (lL cL lb cb le ce : Nat) (he : Bool) (y : Int) (nm : ByteArray) (k : Int) (At : Option Addr) (lt ct : Nat) (g z : Int) (s : Bool) (w : World) :
    Calls Tryz.prog 52 #[insV op a b v t AL Ab Ae lL cL lb cb le ce he, opA y nm k At lt ct g z s] w
      fun e w' => (∃ AL' Ab' Ae' cL' cb' ce', e = .returned (insV op (uA k op a) (uB k b) (uV k v) (uT k t) AL' Ab' Ae' (uL k op lL) cL' (uY k lb) cb' (uE k op he le) ce' (uH k op he))) ∧ Below w.heap.size w w' := by
  by_cases k2 : k = 2
  · subst k2
    by_cases o4 : op = 4
    · subst o4
      cases he
      · exact (unc_3 a b v t y g z AL Ab Ae At lL cL lb cb le ce lt ct nm s w).mono fun _ _ ⟨h, hb⟩ => ⟨⟨AL, none, Ae, cL, 0, ce, h⟩, hb⟩
      · exact (unc_2 a b v t y g z AL Ab Ae At lL cL lb cb le ce lt ct nm s w).mono fun _ _ ⟨h, hb⟩ => ⟨⟨AL, none, none, cL, 0, 0, h⟩, hb⟩
    · refine (unc_1 a b v t y g z op he AL Ab Ae At lL cL lb cb le ce lt ct nm s w (by simpa using o4)).mono fun _ _ ⟨h, hb⟩ => ⟨⟨AL, none, Ae, cL, 0, ce, ?_⟩, hb⟩
      rw [h]; simp [insV, uA, uB, uV, uT, uL, uY, uE, uH, o4]
  by_cases k3 : k = 3
  · subst k3
    by_cases o14 : op = 14
    · subst o14
      exact (unc_4 a b v t y g z he AL Ab Ae At lL cL lb cb le ce lt ct nm s w).mono fun _ _ ⟨h, hb⟩ => ⟨⟨none, Ab, Ae, 0, cb, ce, h⟩, hb⟩
    by_cases o15 : op = 15
    · subst o15
      exact (unc_5 a b v t y g z he AL Ab Ae At lL cL lb cb le ce lt ct nm s w).mono fun _ _ ⟨h, hb⟩ => ⟨⟨AL, Ab, Ae, cL, cb, ce, h⟩, hb⟩
    refine (unc_6 a b v t y g z op he AL Ab Ae At lL cL lb cb le ce lt ct nm s w (by simpa using o14) (by simpa using o15)).mono fun _ _ ⟨h, hb⟩ => ⟨⟨AL, Ab, Ae, cL, cb, ce, ?_⟩, hb⟩
    rw [h]; simp [insV, uA, uB, uV, uT, uL, uY, uE, uH, o14, o15]
  by_cases k4 : k = 4
  · subst k4
    refine (unc_7 a b v t y g z op he AL Ab Ae At lL cL lb cb le ce lt ct nm s w).mono fun _ _ ⟨h, hb⟩ => ⟨⟨AL, Ab, Ae, cL, cb, ce, ?_⟩, hb⟩
    rw [h]; simp [insV, uA, uB, uV, uT, uL, uY, uE, uH]
  by_cases k6 : k = 6
  · subst k6
    refine (unc_8 a b v t y g z op he AL Ab Ae At lL cL lb cb le ce lt ct nm s w).mono fun _ _ ⟨h, hb⟩ => ⟨⟨AL, Ab, Ae, cL, cb, ce, ?_⟩, hb⟩
    rw [h]; simp [insV, uA, uB, uV, uT, uL, uY, uE, uH]
  by_cases k7 : k = 7
  · subst k7
    refine (unc_9 a b v t y g z op he AL Ab Ae At lL cL lb cb le ce lt ct nm s w).mono fun _ _ ⟨h, hb⟩ => ⟨⟨AL, Ab, Ae, cL, cb, ce, ?_⟩, hb⟩
    rw [h]; simp [insV, uA, uB, uV, uT, uL, uY, uE, uH]
  by_cases k8 : k = 8
  · subst k8
    refine (unc_10 a b v t y g z op he AL Ab Ae At lL cL lb cb le ce lt ct nm s w).mono fun _ _ ⟨h, hb⟩ => ⟨⟨AL, Ab, Ae, cL, cb, ce, ?_⟩, hb⟩
    rw [h]; simp [insV, uA, uB, uV, uT, uL, uY, uE, uH]
  by_cases k10 : k = 10
  · subst k10
    refine (unc_11 a b v t y g z op he AL Ab Ae At lL cL lb cb le ce lt ct nm s w).mono fun _ _ ⟨h, hb⟩ => ⟨⟨AL, Ab, Ae, cL, cb, ce, ?_⟩, hb⟩
    rw [h]; simp [insV, uA, uB, uV, uT, uL, uY, uE, uH]
  refine (unc_12 a b v t y g z op k he AL Ab Ae At lL cL lb cb le ce lt ct nm s w (by simpa using k2) (by simpa using k3) (by simpa using k4) (by simpa using k6) (by simpa using k7) (by simpa using k8) (by simpa using k10)).mono fun _ _ ⟨h, hb⟩ => ⟨⟨AL, Ab, Ae, cL, cb, ce, ?_⟩, hb⟩
  rw [h]; simp [insV, uA, uB, uV, uT, uL, uY, uE, uH, k2, k3, k4, k6, k7, k8, k10]

end Go.Proofs.YtbhniddgkdldlaaGreatDoor

/- Contracts of tree.countedFit, tree.mayBe, tree.all of instructions, tree.May. -/
namespace Go.Proofs.YtbhniddgkdldlaaGreatDoor
open Go.RowKit Trx

theorem keep9 {w w' : World} {b : Nat} {a0 a1 a2 a3 a4 a5 a6 a7 a8 : Value} (hb : Below w.heap.size w w') (k0 : w.cell? ⟨b, 0, none⟩ = some a0) (k1 : w.cell? ⟨b, 1, none⟩ = some a1) (k2 : w.cell? ⟨b, 2, none⟩ = some a2) (k3 : w.cell? ⟨b, 3, none⟩ = some a3)
    (k4 : w.cell? ⟨b, 4, none⟩ = some a4) (k5 : w.cell? ⟨b, 5, none⟩ = some a5) (k6 : w.cell? ⟨b, 6, none⟩ = some a6) (k7 : w.cell? ⟨b, 7, none⟩ = some a7) (k8 : w.cell? ⟨b, 8, none⟩ = some a8) :
    b < w'.heap.size ∧ w'.cell? ⟨b, 0, none⟩ = some a0 ∧ w'.cell? ⟨b, 1, none⟩ = some a1 ∧ w'.cell? ⟨b, 2, none⟩ = some a2 ∧ w'.cell? ⟨b, 3, none⟩ = some a3 ∧ w'.cell? ⟨b, 4, none⟩ = some a4 ∧ w'.cell? ⟨b, 5, none⟩ = some a5 ∧
    w'.cell? ⟨b, 6, none⟩ = some a6 ∧ w'.cell? ⟨b, 7, none⟩ = some a7 ∧ w'.cell? ⟨b, 8, none⟩ = some a8 :=
  ⟨Nat.lt_of_lt_of_le (World.block_lt_of_cell? _ _ k0) hb.size, cell_later k0 hb, cell_later k1 hb, cell_later k2 hb, cell_later k3 hb, cell_later k4 hb, cell_later k5 hb, cell_later k6 hb, cell_later k7 hb, cell_later k8 hb⟩
/-- a new block of nine cells and one behind it. -/
theorem nineC {w0 w : World} {a0 a1 a2 a3 a4 a5 a6 a7 a8 : Value} {t : TypeId} {o : Obj} (h : Below ((w0.alloc (.cells #[a0, a1, a2, a3, a4, a5, a6, a7, a8] t)).alloc o).heap.size ((w0.alloc (.cells #[a0, a1, a2, a3, a4, a5, a6, a7, a8] t)).alloc o) w) :
    (w0.heap.size < w.heap.size) ∧ (w.cell? ⟨w0.heap.size, 7, none⟩ = some a7) ∧ Below w0.heap.size w0 w := by
  have h1 : Below (w0.alloc (.cells #[a0, a1, a2, a3, a4, a5, a6, a7, a8] t)).heap.size (w0.alloc (.cells #[a0, a1, a2, a3, a4, a5, a6, a7, a8] t)) w := ((Below.refl _ _).alloc (Nat.le_refl _) o).trans (h.mono (by simp))
  obtain ⟨h2, -, -, -, -, -, -, -, k7, -, -, h3⟩ := nineB h1
  exact ⟨h2, k7, h3⟩

def cfB (k op g v t a b : Int) (L : List Int) (mb me : Bool) : Bool :=
  if k = 2 then isRes t && mb && me else if k = 10 then (g == 2 || decide (v ≤ 4294967295)) else if op = 14 then decide (0 < L.length) && L.all num32 else num32 a && num32 b

set_option maxHeartbeats 8000000 in
set_option maxRecDepth 100000 in
theorem countedFit_any (op a b v t : Int) (AL Ab Ae : Option Addr) (L : List Int) (cL lb cb le ce : Nat) (he : Bool) (y : Int) (nm : ByteArray) (k : Int) (At : Option Addr) (lt ct : Nat) (g z : Int) (s mb me : Bool) (w : World)
    (ha : inI a) (hb : inI b) (hL : ∀ z ∈ L, inI z) (sL : Sl w w.heap.size AL (n64s L)) (mL : L.length ≤ maxLen)
    (HB : ∀ w', Below w.heap.size w w' → Calls Tryz.prog 20 #[.slice Ab lb cb] w' fun e w'' => e = .returned (.bool mb) ∧ Below w'.heap.size w' w'')
    (HE : ∀ w', Below w.heap.size w w' → Calls Tryz.prog 20 #[.slice Ae le ce] w' fun e w'' => e = .returned (.bool me) ∧ Below w'.heap.size w' w'') :
    Calls Tryz.prog 53 #[insV op a b v t AL Ab Ae L.length cL lb cb le ce he, opA y nm k At lt ct g z s] w fun e w' => e = .returned (.bool (cfB k op g v t a b L mb me)) ∧ Below w.heap.size w w' := by
  have HB := Lib.hid HB
  have HE := Lib.hid HE
  have HL := Lib.hid (fun w' (h : Below w.heap.size w w') => allInt_any L AL cL w' hL ((sL.below h).more h.size) mL)
  have HR := Lib.hid (fun w => isResult_any t w)
  have HA := Lib.hid (fun w => isNumber_any a w ha)
  have HBn := Lib.hid (fun w => isNumber_any b w hb)
  unfold insV opA
  clear hL sL ha hb
  unfold maxLen at mL
  by_cases k2 : k = 2
  · subst k2
    rw [show cfB 2 op g v t a b L mb me = (isRes t && mb && me) from rfl]
    cases hr : isRes t
    · rw [hr] at HR
      clear hr
      go_enter Tryz.func53, Tryz.ntmps53
      go_wp2_with (go_at_call 78; refine (HR.out _).mono ?_; rintro e w' ⟨rfl, rfl⟩)
      go_ret
      exact ⟨by simp, ((Below.refl _ _).alloc (Nat.le_refl _) _).alloc (by simp) _⟩
    · rw [hr] at HR
      clear hr
      cases mb
      · go_enter Tryz.func53, Tryz.ntmps53
        go_wp2_with (first
          | (go_at_call 78; refine (HR.out _).mono ?_; rintro e w' ⟨rfl, rfl⟩)
          | (go_at_call 20; ((with_reducible refine (HB.out _ (((Below.refl _ _).alloc (Nat.le_refl _) _).alloc (by simp) _)).mono ?_); rintro e w1 ⟨rfl, hb1⟩; obtain ⟨hl, k7, hw⟩ := nineC hb1; clear hb1)))
        go_ret
        exact ⟨by simp, hw⟩
      · go_enter Tryz.func53, Tryz.ntmps53
        go_wp2_with (first
          | (go_at_call 78; refine (HR.out _).mono ?_; rintro e w' ⟨rfl, rfl⟩)
          | (go_at_call 20; ((with_reducible refine (HB.out _ (((Below.refl _ _).alloc (Nat.le_refl _) _).alloc (by simp) _)).mono ?_); rintro e w1 ⟨rfl, hb1⟩; obtain ⟨hl, k7, hw⟩ := nineC hb1; clear hb1))
          | (go_at_call 20; ((with_reducible refine (HE.out _ hw).mono ?_); rintro e w2 ⟨rfl, hb2⟩; have hw2 := hw.trans (hb2.mono hw.size); clear hb2)))
        go_ret
        exact ⟨by simp, hw2⟩
  have k2' : (k == 2) = false := by simpa using k2
  by_cases k10 : k = 10
  · subst k10
    rw [show cfB 10 op g v t a b L mb me = (g == 2 || decide (v ≤ 4294967295)) from rfl]
    clear k2 k2'
    cases hg : g == 2
    all_goals
      go_enter Tryz.func53, Tryz.ntmps53
      go_wp2_with fail
      go_ret
      exact ⟨by simp, ((Below.refl _ _).alloc (Nat.le_refl _) _).alloc (by simp) _⟩
  have k10' : (k == 10) = false := by simpa using k10
  by_cases o14 : op = 14
  · subst o14
    rw [show cfB k 14 g v t a b L mb me = (decide (0 < L.length) && L.all num32) by simp [cfB, k2, k10]]
    clear k2 k10
    by_cases hl : 0 < L.length
    · have tl : decide (0 < L.length) = true := by simpa using hl
      rw [tl]
      go_enter Tryz.func53, Tryz.ntmps53
      go_wp2_with (go_at_call 79; refine (HL.out _ (((Below.refl _ _).alloc (Nat.le_refl _) _).alloc (by simp) _)).mono ?_; rintro e w' ⟨rfl, rfl⟩)
      go_ret
      exact ⟨by simp, ((Below.refl _ _).alloc (Nat.le_refl _) _).alloc (by simp) _⟩
    · have tl : decide (0 < L.length) = false := by simpa using hl
      rw [tl]
      go_enter Tryz.func53, Tryz.ntmps53
      go_wp2_with fail
      go_ret
      exact ⟨by simp, ((Below.refl _ _).alloc (Nat.le_refl _) _).alloc (by simp) _⟩
  have o14' : (op == 14) = false := by simpa using o14
  rw [show cfB k op g v t a b L mb me = (num32 a && num32 b) by simp [cfB, k2, k10, o14]]
  clear k2 k10 o14
  cases hn : num32 a
  all_goals
    rw [hn] at HA
    clear hn
    go_enter Tryz.func53, Tryz.ntmps53
    go_wp2_with (first
      | (go_at_call 80; ((with_reducible refine (HA.out _).mono ?_); rintro e w' ⟨rfl, rfl⟩))
      | (go_at_call 80; ((with_reducible refine (HBn.out _).mono ?_); rintro e w' ⟨rfl, rfl⟩)))
    go_ret
    exact ⟨by simp, ((Below.refl _ _).alloc (Nat.le_refl _) _).alloc (by simp) _⟩

end Go.Proofs.YtbhniddgkdldlaaGreatDoor
