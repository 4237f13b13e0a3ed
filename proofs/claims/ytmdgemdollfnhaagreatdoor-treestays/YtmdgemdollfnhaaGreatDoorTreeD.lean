/- Contracts of tree.uncounted: by the operation's kind, a case each, then as one. -/
import Derived.Test.YtmdgemdollfnhaaGreatDoorTreeC
namespace Go.Proofs.YtmdgemdollfnhaaGreatDoor
open Go.RowKit Trx

def uA (k op a : Int) : Int := if k = 3 then (if op = 14 ∨ op = 15 then a else 0) else if k = 4 ∨ k = 6 ∨ k = 7 ∨ k = 8 then 0 else a
def uB (k b : Int) : Int := if k = 7 ∨ k = 8 then 0 else b
def uV (k v : Int) : Int := if k = 10 then 0 else v
def uT (k t : Int) : Int := if k = 2 then 0 else t
def uL (k op : Int) (l : Nat) : Nat := if k = 3 ∧ op = 14 then 0 else l
def uY (k : Int) (l : Nat) : Nat := if k = 2 then 0 else l
def uE (k op : Int) (he : Bool) (l : Nat) : Nat := if k = 2 ∧ op = 4 ∧ he = true then 0 else l
def uH (k op : Int) (he : Bool) : Bool := if k = 2 ∧ op = 4 then false else he
/-- an instruction's value. -/
def insV (op a b v t : Int) (AL Ab Ae : Option Addr) (lL cL lb cb le ce : Nat) (he : Bool) : Value :=
  .agg #[.int .i64 op, .int .i64 a, .int .i64 b, .int .u64 v, .int .i64 t, .slice AL lL cL, .slice Ab lb cb, .slice Ae le ce, .bool he]
def opA (y : Int) (nm : ByteArray) (k : Int) (At : Option Addr) (lt ct : Nat) (g z : Int) (s : Bool) : Value :=
  .agg #[.int .i64 y, .string nm, .int .i64 k, .slice At lt ct, .int .i64 g, .int .i64 z, .bool s]
theorem two_below {w w' : World} {o1 o2 o3 : Obj} (h : w' = ((w.alloc o1).alloc o2).alloc o3) : Below w.heap.size w w' := by
  subst h
  exact (((Below.refl _ _).alloc (Nat.le_refl _) _).alloc (by simp) _).alloc (by simp; omega) _

set_option maxHeartbeats 4000000 in
set_option maxRecDepth 100000 in
theorem unc_1 (a b v t y g z : Int) (op : Int) (he : Bool) (AL Ab Ae At : Option Addr) (lL cL lb cb le ce lt ct : Nat) (nm : ByteArray) (s : Bool) (w : World) (h : (op == 4) = false) :
    Calls Tryz.prog 69 #[.agg #[.int .i64 op, .int .i64 a, .int .i64 b, .int .u64 v, .int .i64 t, .slice AL lL cL, .slice Ab lb cb, .slice Ae le ce, .bool he], .agg #[.int .i64 y, .string nm, .int .i64 2, .slice At lt ct, .int .i64 g, .int .i64 z, .bool s]] w
      fun e w' => e = .returned (.agg #[.int .i64 op, .int .i64 a, .int .i64 b, .int .u64 v, .int .i64 0, .slice AL lL cL, .slice none 0 0, .slice Ae le ce, .bool he]) ∧ Below w.heap.size w w' := by
  go_enter Tryz.func69, Tryz.ntmps69
  go_wp2_with fail
  refine bodyPost_ret (v := .agg #[.int .i64 op, .int .i64 a, .int .i64 b, .int .u64 v, .int .i64 0, .slice AL lL cL, .slice none 0 0, .slice Ae le ce, .bool he]) (by simp [results, Tryz.results69, go_sem]) rfl ⟨rfl, ?_⟩
  repeat' (first | exact Below.refl _ _ | refine Below.setCell ?_ ?_ _ | refine Below.alloc ?_ ?_ _)
  all_goals (simp <;> omega)
set_option maxHeartbeats 4000000 in
set_option maxRecDepth 100000 in
theorem unc_2 (a b v t y g z : Int) (AL Ab Ae At : Option Addr) (lL cL lb cb le ce lt ct : Nat) (nm : ByteArray) (s : Bool) (w : World)  :
    Calls Tryz.prog 69 #[.agg #[.int .i64 4, .int .i64 a, .int .i64 b, .int .u64 v, .int .i64 t, .slice AL lL cL, .slice Ab lb cb, .slice Ae le ce, .bool true], .agg #[.int .i64 y, .string nm, .int .i64 2, .slice At lt ct, .int .i64 g, .int .i64 z, .bool s]] w
      fun e w' => e = .returned (.agg #[.int .i64 4, .int .i64 a, .int .i64 b, .int .u64 v, .int .i64 0, .slice AL lL cL, .slice none 0 0, .slice none 0 0, .bool false]) ∧ Below w.heap.size w w' := by
  go_enter Tryz.func69, Tryz.ntmps69
  go_wp2_with fail
  refine bodyPost_ret (v := .agg #[.int .i64 4, .int .i64 a, .int .i64 b, .int .u64 v, .int .i64 0, .slice AL lL cL, .slice none 0 0, .slice none 0 0, .bool false]) (by simp [results, Tryz.results69, go_sem]) rfl ⟨rfl, ?_⟩
  repeat' (first | exact Below.refl _ _ | refine Below.setCell ?_ ?_ _ | refine Below.alloc ?_ ?_ _)
  all_goals (simp <;> omega)
set_option maxHeartbeats 4000000 in
set_option maxRecDepth 100000 in
theorem unc_3 (a b v t y g z : Int) (AL Ab Ae At : Option Addr) (lL cL lb cb le ce lt ct : Nat) (nm : ByteArray) (s : Bool) (w : World)  :
    Calls Tryz.prog 69 #[.agg #[.int .i64 4, .int .i64 a, .int .i64 b, .int .u64 v, .int .i64 t, .slice AL lL cL, .slice Ab lb cb, .slice Ae le ce, .bool false], .agg #[.int .i64 y, .string nm, .int .i64 2, .slice At lt ct, .int .i64 g, .int .i64 z, .bool s]] w
      fun e w' => e = .returned (.agg #[.int .i64 4, .int .i64 a, .int .i64 b, .int .u64 v, .int .i64 0, .slice AL lL cL, .slice none 0 0, .slice Ae le ce, .bool false]) ∧ Below w.heap.size w w' := by
  go_enter Tryz.func69, Tryz.ntmps69
  go_wp2_with fail
  refine bodyPost_ret (v := .agg #[.int .i64 4, .int .i64 a, .int .i64 b, .int .u64 v, .int .i64 0, .slice AL lL cL, .slice none 0 0, .slice Ae le ce, .bool false]) (by simp [results, Tryz.results69, go_sem]) rfl ⟨rfl, ?_⟩
  repeat' (first | exact Below.refl _ _ | refine Below.setCell ?_ ?_ _ | refine Below.alloc ?_ ?_ _)
  all_goals (simp <;> omega)
set_option maxHeartbeats 4000000 in
set_option maxRecDepth 100000 in
theorem unc_4 (a b v t y g z : Int) (he : Bool) (AL Ab Ae At : Option Addr) (lL cL lb cb le ce lt ct : Nat) (nm : ByteArray) (s : Bool) (w : World)  :
    Calls Tryz.prog 69 #[.agg #[.int .i64 14, .int .i64 a, .int .i64 b, .int .u64 v, .int .i64 t, .slice AL lL cL, .slice Ab lb cb, .slice Ae le ce, .bool he], .agg #[.int .i64 y, .string nm, .int .i64 3, .slice At lt ct, .int .i64 g, .int .i64 z, .bool s]] w
      fun e w' => e = .returned (.agg #[.int .i64 14, .int .i64 a, .int .i64 b, .int .u64 v, .int .i64 t, .slice none 0 0, .slice Ab lb cb, .slice Ae le ce, .bool he]) ∧ Below w.heap.size w w' := by
  go_enter Tryz.func69, Tryz.ntmps69
  go_wp2_with fail
  refine bodyPost_ret (v := .agg #[.int .i64 14, .int .i64 a, .int .i64 b, .int .u64 v, .int .i64 t, .slice none 0 0, .slice Ab lb cb, .slice Ae le ce, .bool he]) (by simp [results, Tryz.results69, go_sem]) rfl ⟨rfl, ?_⟩
  repeat' (first | exact Below.refl _ _ | refine Below.setCell ?_ ?_ _ | refine Below.alloc ?_ ?_ _)
  all_goals (simp <;> omega)
set_option maxHeartbeats 4000000 in
set_option maxRecDepth 100000 in
theorem unc_5 (a b v t y g z : Int) (he : Bool) (AL Ab Ae At : Option Addr) (lL cL lb cb le ce lt ct : Nat) (nm : ByteArray) (s : Bool) (w : World)  :
    Calls Tryz.prog 69 #[.agg #[.int .i64 15, .int .i64 a, .int .i64 b, .int .u64 v, .int .i64 t, .slice AL lL cL, .slice Ab lb cb, .slice Ae le ce, .bool he], .agg #[.int .i64 y, .string nm, .int .i64 3, .slice At lt ct, .int .i64 g, .int .i64 z, .bool s]] w
      fun e w' => e = .returned (.agg #[.int .i64 15, .int .i64 a, .int .i64 b, .int .u64 v, .int .i64 t, .slice AL lL cL, .slice Ab lb cb, .slice Ae le ce, .bool he]) ∧ Below w.heap.size w w' := by
  go_enter Tryz.func69, Tryz.ntmps69
  go_wp2_with fail
  refine bodyPost_ret (v := .agg #[.int .i64 15, .int .i64 a, .int .i64 b, .int .u64 v, .int .i64 t, .slice AL lL cL, .slice Ab lb cb, .slice Ae le ce, .bool he]) (by simp [results, Tryz.results69, go_sem]) rfl ⟨rfl, ?_⟩
  repeat' (first | exact Below.refl _ _ | refine Below.setCell ?_ ?_ _ | refine Below.alloc ?_ ?_ _)
  all_goals (simp <;> omega)
set_option maxHeartbeats 4000000 in
set_option maxRecDepth 100000 in
theorem unc_6 (a b v t y g z : Int) (op : Int) (he : Bool) (AL Ab Ae At : Option Addr) (lL cL lb cb le ce lt ct : Nat) (nm : ByteArray) (s : Bool) (w : World) (t14 : (op == 14) = false) (t15 : (op == 15) = false) :
    Calls Tryz.prog 69 #[.agg #[.int .i64 op, .int .i64 a, .int .i64 b, .int .u64 v, .int .i64 t, .slice AL lL cL, .slice Ab lb cb, .slice Ae le ce, .bool he], .agg #[.int .i64 y, .string nm, .int .i64 3, .slice At lt ct, .int .i64 g, .int .i64 z, .bool s]] w
      fun e w' => e = .returned (.agg #[.int .i64 op, .int .i64 0, .int .i64 b, .int .u64 v, .int .i64 t, .slice AL lL cL, .slice Ab lb cb, .slice Ae le ce, .bool he]) ∧ Below w.heap.size w w' := by
  go_enter Tryz.func69, Tryz.ntmps69
  go_wp2_with fail
  refine bodyPost_ret (v := .agg #[.int .i64 op, .int .i64 0, .int .i64 b, .int .u64 v, .int .i64 t, .slice AL lL cL, .slice Ab lb cb, .slice Ae le ce, .bool he]) (by simp [results, Tryz.results69, go_sem]) rfl ⟨rfl, ?_⟩
  repeat' (first | exact Below.refl _ _ | refine Below.setCell ?_ ?_ _ | refine Below.alloc ?_ ?_ _)
  all_goals (simp <;> omega)
set_option maxHeartbeats 4000000 in
set_option maxRecDepth 100000 in
theorem unc_7 (a b v t y g z : Int) (op : Int) (he : Bool) (AL Ab Ae At : Option Addr) (lL cL lb cb le ce lt ct : Nat) (nm : ByteArray) (s : Bool) (w : World)  :
    Calls Tryz.prog 69 #[.agg #[.int .i64 op, .int .i64 a, .int .i64 b, .int .u64 v, .int .i64 t, .slice AL lL cL, .slice Ab lb cb, .slice Ae le ce, .bool he], .agg #[.int .i64 y, .string nm, .int .i64 4, .slice At lt ct, .int .i64 g, .int .i64 z, .bool s]] w
      fun e w' => e = .returned (.agg #[.int .i64 op, .int .i64 0, .int .i64 b, .int .u64 v, .int .i64 t, .slice AL lL cL, .slice Ab lb cb, .slice Ae le ce, .bool he]) ∧ Below w.heap.size w w' := by
  go_enter Tryz.func69, Tryz.ntmps69
  go_wp2_with fail
  refine bodyPost_ret (v := .agg #[.int .i64 op, .int .i64 0, .int .i64 b, .int .u64 v, .int .i64 t, .slice AL lL cL, .slice Ab lb cb, .slice Ae le ce, .bool he]) (by simp [results, Tryz.results69, go_sem]) rfl ⟨rfl, ?_⟩
  repeat' (first | exact Below.refl _ _ | refine Below.setCell ?_ ?_ _ | refine Below.alloc ?_ ?_ _)
  all_goals (simp <;> omega)
set_option maxHeartbeats 4000000 in
set_option maxRecDepth 100000 in
theorem unc_8 (a b v t y g z : Int) (op : Int) (he : Bool) (AL Ab Ae At : Option Addr) (lL cL lb cb le ce lt ct : Nat) (nm : ByteArray) (s : Bool) (w : World)  :
    Calls Tryz.prog 69 #[.agg #[.int .i64 op, .int .i64 a, .int .i64 b, .int .u64 v, .int .i64 t, .slice AL lL cL, .slice Ab lb cb, .slice Ae le ce, .bool he], .agg #[.int .i64 y, .string nm, .int .i64 6, .slice At lt ct, .int .i64 g, .int .i64 z, .bool s]] w
      fun e w' => e = .returned (.agg #[.int .i64 op, .int .i64 0, .int .i64 b, .int .u64 v, .int .i64 t, .slice AL lL cL, .slice Ab lb cb, .slice Ae le ce, .bool he]) ∧ Below w.heap.size w w' := by
  go_enter Tryz.func69, Tryz.ntmps69
  go_wp2_with fail
  refine bodyPost_ret (v := .agg #[.int .i64 op, .int .i64 0, .int .i64 b, .int .u64 v, .int .i64 t, .slice AL lL cL, .slice Ab lb cb, .slice Ae le ce, .bool he]) (by simp [results, Tryz.results69, go_sem]) rfl ⟨rfl, ?_⟩
  repeat' (first | exact Below.refl _ _ | refine Below.setCell ?_ ?_ _ | refine Below.alloc ?_ ?_ _)
  all_goals (simp <;> omega)
set_option maxHeartbeats 4000000 in
set_option maxRecDepth 100000 in
theorem unc_9 (a b v t y g z : Int) (op : Int) (he : Bool) (AL Ab Ae At : Option Addr) (lL cL lb cb le ce lt ct : Nat) (nm : ByteArray) (s : Bool) (w : World)  :
    Calls Tryz.prog 69 #[.agg #[.int .i64 op, .int .i64 a, .int .i64 b, .int .u64 v, .int .i64 t, .slice AL lL cL, .slice Ab lb cb, .slice Ae le ce, .bool he], .agg #[.int .i64 y, .string nm, .int .i64 7, .slice At lt ct, .int .i64 g, .int .i64 z, .bool s]] w
      fun e w' => e = .returned (.agg #[.int .i64 op, .int .i64 0, .int .i64 0, .int .u64 v, .int .i64 t, .slice AL lL cL, .slice Ab lb cb, .slice Ae le ce, .bool he]) ∧ Below w.heap.size w w' := by
  go_enter Tryz.func69, Tryz.ntmps69
  go_wp2_with fail
  refine bodyPost_ret (v := .agg #[.int .i64 op, .int .i64 0, .int .i64 0, .int .u64 v, .int .i64 t, .slice AL lL cL, .slice Ab lb cb, .slice Ae le ce, .bool he]) (by simp [results, Tryz.results69, go_sem]) rfl ⟨rfl, ?_⟩
  repeat' (first | exact Below.refl _ _ | refine Below.setCell ?_ ?_ _ | refine Below.alloc ?_ ?_ _)
  all_goals (simp <;> omega)
set_option maxHeartbeats 4000000 in
set_option maxRecDepth 100000 in
theorem unc_10 (a b v t y g z : Int) (op : Int) (he : Bool) (AL Ab Ae At : Option Addr) (lL cL lb cb le ce lt ct : Nat) (nm : ByteArray) (s : Bool) (w : World)  :
    Calls Tryz.prog 69 #[.agg #[.int .i64 op, .int .i64 a, .int .i64 b, .int .u64 v, .int .i64 t, .slice AL lL cL, .slice Ab lb cb, .slice Ae le ce, .bool he], .agg #[.int .i64 y, .string nm, .int .i64 8, .slice At lt ct, .int .i64 g, .int .i64 z, .bool s]] w
      fun e w' => e = .returned (.agg #[.int .i64 op, .int .i64 0, .int .i64 0, .int .u64 v, .int .i64 t, .slice AL lL cL, .slice Ab lb cb, .slice Ae le ce, .bool he]) ∧ Below w.heap.size w w' := by
  go_enter Tryz.func69, Tryz.ntmps69
  go_wp2_with fail
  refine bodyPost_ret (v := .agg #[.int .i64 op, .int .i64 0, .int .i64 0, .int .u64 v, .int .i64 t, .slice AL lL cL, .slice Ab lb cb, .slice Ae le ce, .bool he]) (by simp [results, Tryz.results69, go_sem]) rfl ⟨rfl, ?_⟩
  repeat' (first | exact Below.refl _ _ | refine Below.setCell ?_ ?_ _ | refine Below.alloc ?_ ?_ _)
  all_goals (simp <;> omega)
set_option maxHeartbeats 4000000 in
set_option maxRecDepth 100000 in
theorem unc_11 (a b v t y g z : Int) (op : Int) (he : Bool) (AL Ab Ae At : Option Addr) (lL cL lb cb le ce lt ct : Nat) (nm : ByteArray) (s : Bool) (w : World)  :
    Calls Tryz.prog 69 #[.agg #[.int .i64 op, .int .i64 a, .int .i64 b, .int .u64 v, .int .i64 t, .slice AL lL cL, .slice Ab lb cb, .slice Ae le ce, .bool he], .agg #[.int .i64 y, .string nm, .int .i64 10, .slice At lt ct, .int .i64 g, .int .i64 z, .bool s]] w
      fun e w' => e = .returned (.agg #[.int .i64 op, .int .i64 a, .int .i64 b, .int .u64 0, .int .i64 t, .slice AL lL cL, .slice Ab lb cb, .slice Ae le ce, .bool he]) ∧ Below w.heap.size w w' := by
  go_enter Tryz.func69, Tryz.ntmps69
  go_wp2_with fail
  refine bodyPost_ret (v := .agg #[.int .i64 op, .int .i64 a, .int .i64 b, .int .u64 0, .int .i64 t, .slice AL lL cL, .slice Ab lb cb, .slice Ae le ce, .bool he]) (by simp [results, Tryz.results69, go_sem]) rfl ⟨rfl, ?_⟩
  repeat' (first | exact Below.refl _ _ | refine Below.setCell ?_ ?_ _ | refine Below.alloc ?_ ?_ _)
  all_goals (simp <;> omega)
set_option maxHeartbeats 4000000 in
set_option maxRecDepth 100000 in
theorem unc_12 (a b v t y g z : Int) (op : Int) (k : Int) (he : Bool) (AL Ab Ae At : Option Addr) (lL cL lb cb le ce lt ct : Nat) (nm : ByteArray) (s : Bool) (w : World) (t2 : (k == 2) = false) (t3 : (k == 3) = false) (t4 : (k == 4) = false) (t6 : (k == 6) = false) (t7 : (k == 7) = false) (t8 : (k == 8) = false) (t10 : (k == 10) = false) :
    Calls Tryz.prog 69 #[.agg #[.int .i64 op, .int .i64 a, .int .i64 b, .int .u64 v, .int .i64 t, .slice AL lL cL, .slice Ab lb cb, .slice Ae le ce, .bool he], .agg #[.int .i64 y, .string nm, .int .i64 k, .slice At lt ct, .int .i64 g, .int .i64 z, .bool s]] w
      fun e w' => e = .returned (.agg #[.int .i64 op, .int .i64 a, .int .i64 b, .int .u64 v, .int .i64 t, .slice AL lL cL, .slice Ab lb cb, .slice Ae le ce, .bool he]) ∧ Below w.heap.size w w' := by
  go_enter Tryz.func69, Tryz.ntmps69
  go_wp2_with fail
  refine bodyPost_ret (v := .agg #[.int .i64 op, .int .i64 a, .int .i64 b, .int .u64 v, .int .i64 t, .slice AL lL cL, .slice Ab lb cb, .slice Ae le ce, .bool he]) (by simp [results, Tryz.results69, go_sem]) rfl ⟨rfl, ?_⟩
  repeat' (first | exact Below.refl _ _ | refine Below.setCell ?_ ?_ _ | refine Below.alloc ?_ ?_ _)
  all_goals (simp <;> omega)

set_option maxRecDepth 100000 in
/-- as one. -/
theorem unc_any (op a b v t : Int) (AL Ab Ae : Option Addr) (lL cL lb cb le ce : Nat) (he : Bool) (y : Int) (nm : ByteArray) (k : Int) (At : Option Addr) (lt ct : Nat) (g z : Int) (s : Bool) (w : World) :
    Calls Tryz.prog 69 #[insV op a b v t AL Ab Ae lL cL lb cb le ce he, opA y nm k At lt ct g z s] w
      fun e w' => (∃ AL' Ab' Ae' cL' cb' ce', e = .returned (insV op (uA k op a) (uB k b) (uV k v) (uT k t) AL' Ab' Ae' (uL k op lL) cL' (uY k lb) cb' (uE k op he le) ce' (uH k op he))) ∧ Below w.heap.size w w' := by
  by_cases k2 : k = 2
  · subst k2
    by_cases o4 : op = 4
    · subst o4
      cases he
      · exact (unc_3 a b v t y g z AL Ab Ae At lL cL lb cb le ce lt ct nm s w).mono fun _ _ ⟨h, hb⟩ => ⟨⟨AL, none, Ae, cL, 0, ce, h⟩, hb⟩
      · exact (unc_2 a b v t y g z AL Ab Ae At lL cL lb cb le ce lt ct nm s w).mono fun _ _ ⟨h, hb⟩ => ⟨⟨AL, none, none, cL, 0, 0, h⟩, hb⟩
    · refine (unc_1 a b v t y g z op he AL Ab Ae At lL cL lb cb le ce lt ct nm s w (by simpa using o4)).mono fun _ _ ⟨h, hb⟩ => ⟨⟨AL, none, Ae, cL, 0, ce, ?_⟩, hb⟩
      rw [h]; simp [insV, uA, uB, uV, uT, uL, uY, uE, uH, o4]
  by_cases k3 : k = 3
  · subst k3
    by_cases o14 : op = 14
    · subst o14
      exact (unc_4 a b v t y g z he AL Ab Ae At lL cL lb cb le ce lt ct nm s w).mono fun _ _ ⟨h, hb⟩ => ⟨⟨none, Ab, Ae, 0, cb, ce, h⟩, hb⟩
    by_cases o15 : op = 15
    · subst o15
      exact (unc_5 a b v t y g z he AL Ab Ae At lL cL lb cb le ce lt ct nm s w).mono fun _ _ ⟨h, hb⟩ => ⟨⟨AL, Ab, Ae, cL, cb, ce, h⟩, hb⟩
    refine (unc_6 a b v t y g z op he AL Ab Ae At lL cL lb cb le ce lt ct nm s w (by simpa using o14) (by simpa using o15)).mono fun _ _ ⟨h, hb⟩ => ⟨⟨AL, Ab, Ae, cL, cb, ce, ?_⟩, hb⟩
    rw [h]; simp [insV, uA, uB, uV, uT, uL, uY, uE, uH, o14, o15]
  by_cases k4 : k = 4
  · subst k4
    refine (unc_7 a b v t y g z op he AL Ab Ae At lL cL lb cb le ce lt ct nm s w).mono fun _ _ ⟨h, hb⟩ => ⟨⟨AL, Ab, Ae, cL, cb, ce, ?_⟩, hb⟩
    rw [h]; simp [insV, uA, uB, uV, uT, uL, uY, uE, uH]
  by_cases k6 : k = 6
  · subst k6
    refine (unc_8 a b v t y g z op he AL Ab Ae At lL cL lb cb le ce lt ct nm s w).mono fun _ _ ⟨h, hb⟩ => ⟨⟨AL, Ab, Ae, cL, cb, ce, ?_⟩, hb⟩
    rw [h]; simp [insV, uA, uB, uV, uT, uL, uY, uE, uH]
  by_cases k7 : k = 7
  · subst k7
    refine (unc_9 a b v t y g z op he AL Ab Ae At lL cL lb cb le ce lt ct nm s w).mono fun _ _ ⟨h, hb⟩ => ⟨⟨AL, Ab, Ae, cL, cb, ce, ?_⟩, hb⟩
    rw [h]; simp [insV, uA, uB, uV, uT, uL, uY, uE, uH]
  by_cases k8 : k = 8
  · subst k8
    refine (unc_10 a b v t y g z op he AL Ab Ae At lL cL lb cb le ce lt ct nm s w).mono fun _ _ ⟨h, hb⟩ => ⟨⟨AL, Ab, Ae, cL, cb, ce, ?_⟩, hb⟩
    rw [h]; simp [insV, uA, uB, uV, uT, uL, uY, uE, uH]
  by_cases k10 : k = 10
  · subst k10
    refine (unc_11 a b v t y g z op he AL Ab Ae At lL cL lb cb le ce lt ct nm s w).mono fun _ _ ⟨h, hb⟩ => ⟨⟨AL, Ab, Ae, cL, cb, ce, ?_⟩, hb⟩
    rw [h]; simp [insV, uA, uB, uV, uT, uL, uY, uE, uH]
  refine (unc_12 a b v t y g z op k he AL Ab Ae At lL cL lb cb le ce lt ct nm s w (by simpa using k2) (by simpa using k3) (by simpa using k4) (by simpa using k6) (by simpa using k7) (by simpa using k8) (by simpa using k10)).mono fun _ _ ⟨h, hb⟩ => ⟨⟨AL, Ab, Ae, cL, cb, ce, ?_⟩, hb⟩
  rw [h]; simp [insV, uA, uB, uV, uT, uL, uY, uE, uH, k2, k3, k4, k6, k7, k8, k10]

end Go.Proofs.YtmdgemdollfnhaaGreatDoor
