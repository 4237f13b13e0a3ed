/- Contracts of op.takes, op.whole: of every byte that has a name. -/
import Derived.Test.YtmdgemdollfnhaaDoorOpC
namespace Go.Proofs.YtmdgemdollfnhaaDoor
open Go.RowKit

/-- a byte that has a name. -/
def IsOp (b : Int) : Prop := ∃ j : Nat, b = j ∧ j < 174 ∧ Opx.nm b ≠ []
theorem isOp_many (b : Int) (h : IsOp b) (hk : Opx.kd b = 11) : Num.many b = 1 ∨ Num.many b = 2 := by
  obtain ⟨j, rfl, hj, hn⟩ := h
  have := List.all_eq_true.1 Opx.num_many j (by simpa using hj)
  simp [hk, hn] at this
  exact this

set_option maxHeartbeats 4000000 in
set_option maxRecDepth 100000 in
theorem takes_any (b : Int) (w : World) (h : IsOp b) :
    Calls Tryd.prog 93 #[.int .i64 b, .int .i64 (Opx.kd b), .string (Opx.nmB b)] w fun e w' => ∃ v, e = .returned v ∧ Own w.heap.size w w' 3 v (i64s (Opx.tk b)) := by
  have h0 : 0 ≤ b ∧ b < 174 := by obtain ⟨j, rfl, hj, _⟩ := h; omega
  by_cases c7 : Opx.kd b = 7
  · have e : Opx.tk b = [1] := by simp [Opx.tk, c7]
    rw [e, c7]
    have HO := Lib.hid (Own.lit w #[.int .i64 1] 3 (by unfold maxLen; simp))
    clear e c7 h h0
    go_enter Tryd.func93, Tryd.ntmps93
    go_wp2
    go_ret
    exact ⟨_, rfl, HO.out⟩
  by_cases c8 : Opx.kd b = 8
  · have e : Opx.tk b = [1, Opx.ty (Opx.nm b)] := by simp [Opx.tk, c8]
    rw [e, c8]
    have HT := Lib.hid (typeOf_nm b w)
    have HO := Lib.hid (Own.lit w #[.int .i64 1, .int .i64 (Opx.ty (Opx.nm b))] 3 (by unfold maxLen; simp))
    clear e c7 c8 h h0
    go_enter Tryd.func93, Tryd.ntmps93
    go_wp2_with (go_at_call 99; refine HT.out.mono ?_; rintro e w' ⟨rfl, rfl⟩)
    go_ret
    exact ⟨_, rfl, HO.out⟩
  by_cases c11 : Opx.kd b = 11
  · have hm := isOp_many b h c11
    have HA := Lib.hid (Args_any b w (by omega) (by omega))
    have HG := Lib.hid (argType_any b w)
    rw [c11]
    obtain ⟨t, ht⟩ : ∃ t, t = Opx.argTy b := ⟨_, rfl⟩
    rw [← ht] at HG
    have hcell : (w.alloc (.cells #[.int .i64 t] 3)).cell? ⟨w.heap.size, 0, none⟩ = some (.int .i64 t) := by rw [World.cell?_alloc_at _ _ _ _ rfl]; rfl
    have hlt : w.heap.size < (w.alloc (.cells #[.int .i64 t] 3)).heap.size := by simp
    have HB : Hid (∀ (v : Value) (w' : World) (zs : List Value), Own (w.alloc (.cells #[.int .i64 t] 3)).heap.size (w.alloc (.cells #[.int .i64 t] 3)) w' 3 v zs → Own w.heap.size w w' 3 v zs) := Lib.hid (fun v w' zs ho => by
      refine ⟨?_, ?_, Nat.le_trans (Nat.le_of_lt hlt) ho.le⟩
      · refine ⟨ho.row.1, ?_⟩
        rcases ho.row.2 with hx | ⟨g, cap, cur, h1, h2, h3⟩
        · exact .inl hx
        · exact .inr ⟨g, cap, cur, h1, by omega, h3⟩
      · exact ((Below.refl w.heap.size w).alloc (Nat.le_refl _) _).trans (ho.below.mono (Nat.le_of_lt hlt)))
    rcases hm with hm | hm
    · have e : Opx.tk b = [t] := by
        have : Opx.many b = 1 := hm
        simp [Opx.tk, c11, this, ht]
      rw [e]
      have HR := Lib.hid (Repeat_one t w.heap.size _ hlt hcell)
      simp only [argsR, hm] at HA
      clear e c7 c8 h h0 c11 hm ht hcell hlt
      go_enter Tryd.func93, Tryd.ntmps93
      go_wp2_with (first
        | (go_at_call 100; refine HA.out.mono ?_; rintro e w' ⟨rfl, rfl⟩)
        | (go_at_call 102; refine HG.out.mono ?_; rintro e w' ⟨rfl, rfl⟩)
        | (go_at_call 101; refine HR.out.mono ?_; rintro e w' ⟨v, rfl, ho⟩))
      go_ret
      exact ⟨_, rfl, HB.out _ _ _ ho⟩
    · have e : Opx.tk b = [t, t] := by
        have : Opx.many b = 2 := hm
        simp [Opx.tk, c11, this, ht]
      rw [e]
      have HR := Lib.hid (Repeat_two t w.heap.size _ hlt hcell)
      simp only [argsR, hm] at HA
      clear e c7 c8 h h0 c11 hm ht hcell hlt
      go_enter Tryd.func93, Tryd.ntmps93
      go_wp2_with (first
        | (go_at_call 100; refine HA.out.mono ?_; rintro e w' ⟨rfl, rfl⟩)
        | (go_at_call 102; refine HG.out.mono ?_; rintro e w' ⟨rfl, rfl⟩)
        | (go_at_call 101; refine HR.out.mono ?_; rintro e w' ⟨v, rfl, ho⟩))
      go_ret
      exact ⟨_, rfl, HB.out _ _ _ ho⟩
  obtain ⟨k, hk⟩ : ∃ k, k = Opx.kd b := ⟨_, rfl⟩
  rw [← hk] at c7 c8 c11 ⊢
  have t1 : (k == 7) = false := by simp; omega
  have t2 : (k == 8) = false := by simp; omega
  have t3 : (k == 11) = false := by simp; omega
  by_cases c : b = 4 ∨ b = 13 ∨ b = 14 ∨ b = 17 ∨ b = 27 ∨ b = 64
  · have e : Opx.tk b = [1] := by simp [Opx.tk, ← hk, c7, c8, c11, c]
    rw [e]
    have HO := Lib.hid (Own.lit w #[.int .i64 1] 3 (by unfold maxLen; simp))
    clear e c7 c8 c11 h h0 hk
    rcases c with rfl | rfl | rfl | rfl | rfl | rfl
    all_goals
      go_enter Tryd.func93, Tryd.ntmps93
      go_wp2
      go_ret
      exact ⟨_, rfl, HO.out⟩
  have e : Opx.tk b = [] := by simp [Opx.tk, ← hk, c7, c8, c11, c]
  rw [e]
  have HO := Lib.hid (Own.nil_ (B := w.heap.size) w w 3 (Below.refl _ _) (Nat.le_refl _))
  have s1 : (b == 4) = false := by simp; omega
  have s2 : (b == 13) = false := by simp; omega
  have s3 : (b == 14) = false := by simp; omega
  have s4 : (b == 17) = false := by simp; omega
  have s5 : (b == 27) = false := by simp; omega
  have s6 : (b == 64) = false := by simp; omega
  clear e c7 c8 c11 h h0 hk c
  go_enter Tryd.func93, Tryd.ntmps93
  go_wp2
  go_ret
  exact ⟨_, rfl, HO.out⟩

end Go.Proofs.YtmdgemdollfnhaaDoor
