/- Contracts of slices.Equal of the lists of a module whose elements are compared by '!='. -/
import Derived.Test.YtmdgemdollfnhaaGreatDoorTreeS4
namespace Go.Proofs.YtmdgemdollfnhaaGreatDoor
open Go.RowKit Trx

theorem bytes_inj {a b : ByteArray} (h : a.toList = b.toList) : a = b := by
  rw [ByteArray.toList_eq, ByteArray.toList_eq] at h
  exact ByteArray.ext (Array.toList_inj.1 h)
theorem lm_inj {x y : Lm} (h0 : x.mn = y.mn) (h1 : x.mx = y.mx) (h2 : x.hs = y.hs) : x = y := by cases x; cases y; simp_all
theorem ex_inj {x y : Ex} (h0 : x.nm = y.nm) (h1 : x.kd = y.kd) (h2 : x.ix = y.ix) : x = y := by cases x; cases y; simp_all
theorem im_inj {x y : Im} (h0 : x.md = y.md) (h1 : x.nm = y.nm) (h2 : x.kd = y.kd) (h3 : x.ty = y.ty) (h4 : x.mu = y.mu) (h5 : x.lm = y.lm) : x = y := by cases x; cases y; simp_all

set_option maxRecDepth 100000 in
set_option maxHeartbeats 4000000 in
theorem eqLm_at (d : Nat) (a0 b0 : Int) (a1 b1 : Int) (a2 b2 : Bool) (w : World) : (Op.equalIn (d + 2) 74 (.agg #[.int .i64 a0, .int .i64 a1, .bool a2]) (.agg #[.int .i64 b0, .int .i64 b1, .bool b2])).run Tryz.prog w = .ok (a0 == b0 && a1 == b1 && a2 == b2) w := by
  have uint := Tryz.underlying3
  have aint_ := Tryz.isAgg3
  have zint := Tryz.sizeOf3
  have ubool := Tryz.underlying4
  have abool_ := Tryz.isAgg4
  have zbool := Tryz.sizeOf4
  have hS : Tryz.prog.underlying 74 = some (.struct (Tryz.prog.fieldsOf 74)) := by kernel_rfl
  have hp : Tryz.prog.stoodInHeld 74 = false := by kernel_rfl
  rw [run_equalIn_agg w (d + 1) 74 _ _ hS hp]
  simp only [Program.fieldsOf, Tryz.underlying74]
  go_simp
  by_cases h0 : a0 = b0 <;> by_cases h1 : a1 = b1 <;> by_cases h2 : a2 = b2 <;> simp [h0, h1, h2]
@[go_sem high] theorem eqLm_9999 (a0 b0 : Int) (a1 b1 : Int) (a2 b2 : Bool) (w : World) : (Op.equalIn 9999 74 (.agg #[.int .i64 a0, .int .i64 a1, .bool a2]) (.agg #[.int .i64 b0, .int .i64 b1, .bool b2])).run Tryz.prog w = .ok (a0 == b0 && a1 == b1 && a2 == b2) w := eqLm_at 9997 a0 b0 a1 b1 a2 b2 w
@[go_sem high] theorem eqLm_10000 (a0 b0 : Int) (a1 b1 : Int) (a2 b2 : Bool) (w : World) : (Op.equalIn 10000 74 (.agg #[.int .i64 a0, .int .i64 a1, .bool a2]) (.agg #[.int .i64 b0, .int .i64 b1, .bool b2])).run Tryz.prog w = .ok (a0 == b0 && a1 == b1 && a2 == b2) w := eqLm_at 9998 a0 b0 a1 b1 a2 b2 w

set_option maxHeartbeats 8000000 in
set_option maxRecDepth 100000 in
theorem eqLLm_any (s t : SL Lm) (w : World) (hs : s.ok Lm.cells (fun _ _ => Lm.ok) 3 24 w w.heap.size) (ht : t.ok Lm.cells (fun _ _ => Lm.ok) 3 24 w w.heap.size) :
    Calls Tryz.prog 41 #[.slice s.A s.l.length s.c, .slice t.A t.l.length t.c] w (Tells (s.l = t.l) w) := by
  have hm1 := Nat.le_trans hs.le hs.c
  have hm2 := Nat.le_trans ht.le ht.c
  unfold maxLen at hm1 hm2
  have H1 := Lib.hid hs
  have H2 := Lib.hid ht
  clear hs ht
  by_cases hl : s.l.length = t.l.length
  · rw [← hl]
    have tl : ((s.l.length : Int) != (s.l.length : Int)) = false := by simp
    have HL := Lib.hid hl
    clear hl
    go_enter Tryz.func41, Tryz.ntmps41
    go_wp2_with fail
    go_loopw [13] (fun i wr => ∃ (j n : Nat), j ≤ s.l.length ∧ i = .int .i64 j ∧ wr = w.drewN n ∧ s.l.take j = t.l.take j) (fun i _ => s.l.length - (intOf i).toNat)
    case atStart => exact ⟨0, 0, by omega, rfl, rfl, by simp⟩
    case round =>
      obtain ⟨j, n, hj, rfl, rfl, heq⟩ := hrel
      have HE := Lib.hid heq
      clear heq
      by_cases hlt : j < s.l.length
      · have hlt2 : j < t.l.length := by have := HL.out; omega
        obtain ⟨b, o, x, hA, hx, hb, hokx, hcx⟩ := H1.out.at_ hlt
        obtain ⟨d, u, y, hD, hy, hd, hoky, hcy⟩ := H2.out.at_ hlt2
        have q0 : (w.drewN n).cell? ⟨b, o + j * 3, none⟩ = some (.int .i64 x.mn) := hcx 0 (by omega)
        have q1 : (w.drewN n).cell? ⟨b, o + j * 3 + 1, none⟩ = some (.int .i64 x.mx) := hcx 1 (by omega)
        have q2 : (w.drewN n).cell? ⟨b, o + j * 3 + 2, none⟩ = some (.bool x.hs) := hcx 2 (by omega)
        have r0 : (w.drewN n).cell? ⟨d, u + j * 3, none⟩ = some (.int .i64 y.mn) := hcy 0 (by omega)
        have r1 : (w.drewN n).cell? ⟨d, u + j * 3 + 1, none⟩ = some (.int .i64 y.mx) := hcy 1 (by omega)
        have r2 : (w.drewN n).cell? ⟨d, u + j * 3 + 2, none⟩ = some (.bool y.hs) := hcy 2 (by omega)
        have hs1 : s.l.take (j + 1) = s.l.take j ++ [x] := by rw [List.take_add_one, hx]; rfl
        have hs2 : t.l.take (j + 1) = t.l.take j ++ [y] := by rw [List.take_add_one, hy]; rfl
        have hne : x ≠ y → s.l ≠ t.l := fun h e => by rw [e, hy] at hx; exact h (Option.some.inj hx).symm
        obtain ⟨w0, hw0⟩ : ∃ w0, w0 = w.drewN n := ⟨_, rfl⟩
        have hb1' : b < w0.heap.size := by rw [hw0]; exact hb
        have hb2' : d < w0.heap.size := by rw [hw0]; exact hd
        rw [← hw0] at q0 r0 q1 r1 q2 r2 ⊢
        rw [hA, hD]
        have HW := Lib.hid hw0
        have HS1 := Lib.hid hs1
        have HS2 := Lib.hid hs2
        have HNE := Lib.hid hne
        clear hcx hcy hx hy hokx hoky hA hD hw0 hs1 hs2 hne hb hd
        by_cases hxy : x = y
        · subst hxy
          go_wp2_with fail
          go_quiet (fail)
          go_wp2_with fail
          go_roundw
          case rel => exact ⟨j + 1, n + nq, by omega, by go_num, by rw [HW.out, World.drewN_drewN], by rw [HS1.out, HS2.out, HE.out]⟩
          case measure => simp [intOf]; omega
        · have tz : (x.mn == y.mn && x.mx == y.mx && x.hs == y.hs) = false := by
            rw [Bool.eq_false_iff]; intro e; apply hxy
            simp only [Bool.and_eq_true, beq_iff_eq] at e
            exact lm_inj e.1.1 e.1.2 e.2
          have HUV := Lib.hid hxy
          clear hxy
          go_wp2_with fail
          go_quiet (fail)
          go_wp2_with fail
          go_ret
          refine Tells.mk_ _ (by simp; exact HNE.out HUV.out) ?_
          rw [HW.out, World.drewN_drewN]; exact below_drewN _ _
      · have h1 := List.take_of_length_le (l := s.l) (i := j) (by omega)
        have h2 := List.take_of_length_le (l := t.l) (i := j) (by have := HL.out; omega)
        have HF := Lib.hid (show s.l = t.l by rw [← h1, ← h2]; exact HE.out)
        clear h1 h2
        go_wp2_with fail
        go_ret
        exact Tells.mk_ _ (by simp; exact HF.out) (below_drewN _ _)
  · have tl : ((s.l.length : Int) != (t.l.length : Int)) = true := by simp; omega
    have hne : s.l ≠ t.l := fun e => hl (by rw [e])
    have HNE := Lib.hid hne
    clear hne
    go_enter Tryz.func41, Tryz.ntmps41
    go_wp2_with fail
    go_ret
    exact Tells.mk_ _ (by simp; exact HNE.out) (Below.refl _ _)

set_option maxRecDepth 100000 in
set_option maxHeartbeats 4000000 in
@[go_sem high] theorem eqEx_at (a0 b0 : ByteArray) (a1 b1 : Int) (a2 b2 : Int) (w : World) : (Op.equalIn 10000 84 (.agg #[.string a0, .int .i64 a1, .int .i64 a2]) (.agg #[.string b0, .int .i64 b1, .int .i64 b2])).run Tryz.prog w = .ok (a0.toList == b0.toList && a1 == b1 && a2 == b2) w := by
  have uint := Tryz.underlying3
  have aint_ := Tryz.isAgg3
  have zint := Tryz.sizeOf3
  have ustring := Tryz.underlying9
  have astring_ := Tryz.isAgg9
  have zstring := Tryz.sizeOf9
  have hS : Tryz.prog.underlying 84 = some (.struct (Tryz.prog.fieldsOf 84)) := by kernel_rfl
  have hp : Tryz.prog.stoodInHeld 84 = false := by kernel_rfl
  rw [show (10000 : Nat) = 9999 + 1 from rfl, run_equalIn_agg w 9999 84 _ _ hS hp]
  simp only [Program.fieldsOf, Tryz.underlying84]
  go_simp
  by_cases h0 : a0.toList = b0.toList <;> by_cases h1 : a1 = b1 <;> by_cases h2 : a2 = b2 <;> simp [h0, h1, h2]

set_option maxHeartbeats 8000000 in
set_option maxRecDepth 100000 in
theorem eqLEx_any (s t : SL Ex) (w : World) (hs : s.ok Ex.cells (fun _ _ => Ex.ok) 3 32 w w.heap.size) (ht : t.ok Ex.cells (fun _ _ => Ex.ok) 3 32 w w.heap.size) :
    Calls Tryz.prog 44 #[.slice s.A s.l.length s.c, .slice t.A t.l.length t.c] w (Tells (s.l = t.l) w) := by
  have hm1 := Nat.le_trans hs.le hs.c
  have hm2 := Nat.le_trans ht.le ht.c
  unfold maxLen at hm1 hm2
  have H1 := Lib.hid hs
  have H2 := Lib.hid ht
  clear hs ht
  by_cases hl : s.l.length = t.l.length
  · rw [← hl]
    have tl : ((s.l.length : Int) != (s.l.length : Int)) = false := by simp
    have HL := Lib.hid hl
    clear hl
    go_enter Tryz.func44, Tryz.ntmps44
    go_wp2_with fail
    go_loopw [13] (fun i wr => ∃ (j n : Nat), j ≤ s.l.length ∧ i = .int .i64 j ∧ wr = w.drewN n ∧ s.l.take j = t.l.take j) (fun i _ => s.l.length - (intOf i).toNat)
    case atStart => exact ⟨0, 0, by omega, rfl, rfl, by simp⟩
    case round =>
      obtain ⟨j, n, hj, rfl, rfl, heq⟩ := hrel
      have HE := Lib.hid heq
      clear heq
      by_cases hlt : j < s.l.length
      · have hlt2 : j < t.l.length := by have := HL.out; omega
        obtain ⟨b, o, x, hA, hx, hb, hokx, hcx⟩ := H1.out.at_ hlt
        obtain ⟨d, u, y, hD, hy, hd, hoky, hcy⟩ := H2.out.at_ hlt2
        have q0 : (w.drewN n).cell? ⟨b, o + j * 3, none⟩ = some (.string x.nm) := hcx 0 (by omega)
        have q1 : (w.drewN n).cell? ⟨b, o + j * 3 + 1, none⟩ = some (.int .i64 x.kd) := hcx 1 (by omega)
        have q2 : (w.drewN n).cell? ⟨b, o + j * 3 + 2, none⟩ = some (.int .i64 x.ix) := hcx 2 (by omega)
        have r0 : (w.drewN n).cell? ⟨d, u + j * 3, none⟩ = some (.string y.nm) := hcy 0 (by omega)
        have r1 : (w.drewN n).cell? ⟨d, u + j * 3 + 1, none⟩ = some (.int .i64 y.kd) := hcy 1 (by omega)
        have r2 : (w.drewN n).cell? ⟨d, u + j * 3 + 2, none⟩ = some (.int .i64 y.ix) := hcy 2 (by omega)
        have hs1 : s.l.take (j + 1) = s.l.take j ++ [x] := by rw [List.take_add_one, hx]; rfl
        have hs2 : t.l.take (j + 1) = t.l.take j ++ [y] := by rw [List.take_add_one, hy]; rfl
        have hne : x ≠ y → s.l ≠ t.l := fun h e => by rw [e, hy] at hx; exact h (Option.some.inj hx).symm
        obtain ⟨w0, hw0⟩ : ∃ w0, w0 = w.drewN n := ⟨_, rfl⟩
        have hb1' : b < w0.heap.size := by rw [hw0]; exact hb
        have hb2' : d < w0.heap.size := by rw [hw0]; exact hd
        rw [← hw0] at q0 r0 q1 r1 q2 r2 ⊢
        rw [hA, hD]
        have HW := Lib.hid hw0
        have HS1 := Lib.hid hs1
        have HS2 := Lib.hid hs2
        have HNE := Lib.hid hne
        clear hcx hcy hx hy hokx hoky hA hD hw0 hs1 hs2 hne hb hd
        by_cases hxy : x = y
        · subst hxy
          go_wp2_with fail
          go_quiet (fail)
          go_wp2_with fail
          go_roundw
          case rel => exact ⟨j + 1, n + nq, by omega, by go_num, by rw [HW.out, World.drewN_drewN], by rw [HS1.out, HS2.out, HE.out]⟩
          case measure => simp [intOf]; omega
        · have tz : (x.nm.toList == y.nm.toList && x.kd == y.kd && x.ix == y.ix) = false := by
            rw [Bool.eq_false_iff]; intro e; apply hxy
            simp only [Bool.and_eq_true, beq_iff_eq] at e
            exact ex_inj (bytes_inj e.1.1) e.1.2 e.2
          have HUV := Lib.hid hxy
          clear hxy
          go_wp2_with fail
          go_quiet (fail)
          go_wp2_with fail
          go_ret
          refine Tells.mk_ _ (by simp; exact HNE.out HUV.out) ?_
          rw [HW.out, World.drewN_drewN]; exact below_drewN _ _
      · have h1 := List.take_of_length_le (l := s.l) (i := j) (by omega)
        have h2 := List.take_of_length_le (l := t.l) (i := j) (by have := HL.out; omega)
        have HF := Lib.hid (show s.l = t.l by rw [← h1, ← h2]; exact HE.out)
        clear h1 h2
        go_wp2_with fail
        go_ret
        exact Tells.mk_ _ (by simp; exact HF.out) (below_drewN _ _)
  · have tl : ((s.l.length : Int) != (t.l.length : Int)) = true := by simp; omega
    have hne : s.l ≠ t.l := fun e => hl (by rw [e])
    have HNE := Lib.hid hne
    clear hne
    go_enter Tryz.func44, Tryz.ntmps44
    go_wp2_with fail
    go_ret
    exact Tells.mk_ _ (by simp; exact HNE.out) (Below.refl _ _)

set_option maxRecDepth 100000 in
set_option maxHeartbeats 4000000 in
@[go_sem high] theorem eqIm_at (a0 b0 : ByteArray) (a1 b1 : ByteArray) (a2 b2 : Int) (a3 b3 : Int) (a4 b4 : Bool) (a5 b5 : Int) (a6 b6 : Int) (a7 b7 : Bool) (w : World) : (Op.equalIn 10000 76 (.agg #[.string a0, .string a1, .int .i64 a2, .int .i64 a3, .bool a4, .int .i64 a5, .int .i64 a6, .bool a7]) (.agg #[.string b0, .string b1, .int .i64 b2, .int .i64 b3, .bool b4, .int .i64 b5, .int .i64 b6, .bool b7])).run Tryz.prog w = .ok (a0.toList == b0.toList && a1.toList == b1.toList && a2 == b2 && a3 == b3 && a4 == b4 && (a5 == b5 && a6 == b6 && a7 == b7)) w := by
  have uint := Tryz.underlying3
  have aint_ := Tryz.isAgg3
  have zint := Tryz.sizeOf3
  have ubool := Tryz.underlying4
  have abool_ := Tryz.isAgg4
  have zbool := Tryz.sizeOf4
  have ustring := Tryz.underlying9
  have astring_ := Tryz.isAgg9
  have zstring := Tryz.sizeOf9
  have aL := Tryz.isAgg74
  have zL := Tryz.sizeOf74
  have hS : Tryz.prog.underlying 76 = some (.struct (Tryz.prog.fieldsOf 76)) := by kernel_rfl
  have hp : Tryz.prog.stoodInHeld 76 = false := by kernel_rfl
  rw [show (10000 : Nat) = 9999 + 1 from rfl, run_equalIn_agg w 9999 76 _ _ hS hp]
  simp only [Program.fieldsOf, Tryz.underlying76]
  go_simp
  by_cases h0 : a0.toList = b0.toList <;> by_cases h1 : a1.toList = b1.toList <;> by_cases h2 : a2 = b2 <;> by_cases h3 : a3 = b3 <;> by_cases h4 : a4 = b4 <;> simp [h0, h1, h2, h3, h4]
  by_cases h5 : a5 = b5 <;> by_cases h6 : a6 = b6 <;> by_cases h7 : a7 = b7 <;> simp [h5, h6, h7]

set_option maxHeartbeats 8000000 in
set_option maxRecDepth 100000 in
theorem eqLIm_any (s t : SL Im) (w : World) (hs : s.ok Im.cells (fun _ _ => Im.ok) 8 80 w w.heap.size) (ht : t.ok Im.cells (fun _ _ => Im.ok) 8 80 w w.heap.size) :
    Calls Tryz.prog 38 #[.slice s.A s.l.length s.c, .slice t.A t.l.length t.c] w (Tells (s.l = t.l) w) := by
  have hm1 := Nat.le_trans hs.le hs.c
  have hm2 := Nat.le_trans ht.le ht.c
  unfold maxLen at hm1 hm2
  have H1 := Lib.hid hs
  have H2 := Lib.hid ht
  clear hs ht
  by_cases hl : s.l.length = t.l.length
  · rw [← hl]
    have tl : ((s.l.length : Int) != (s.l.length : Int)) = false := by simp
    have HL := Lib.hid hl
    clear hl
    go_enter Tryz.func38, Tryz.ntmps38
    go_wp2_with fail
    go_loopw [13] (fun i wr => ∃ (j n : Nat), j ≤ s.l.length ∧ i = .int .i64 j ∧ wr = w.drewN n ∧ s.l.take j = t.l.take j) (fun i _ => s.l.length - (intOf i).toNat)
    case atStart => exact ⟨0, 0, by omega, rfl, rfl, by simp⟩
    case round =>
      obtain ⟨j, n, hj, rfl, rfl, heq⟩ := hrel
      have HE := Lib.hid heq
      clear heq
      by_cases hlt : j < s.l.length
      · have hlt2 : j < t.l.length := by have := HL.out; omega
        obtain ⟨b, o, x, hA, hx, hb, hokx, hcx⟩ := H1.out.at_ hlt
        obtain ⟨d, u, y, hD, hy, hd, hoky, hcy⟩ := H2.out.at_ hlt2
        have q0 : (w.drewN n).cell? ⟨b, o + j * 8, none⟩ = some (.string x.md) := hcx 0 (by omega)
        have q1 : (w.drewN n).cell? ⟨b, o + j * 8 + 1, none⟩ = some (.string x.nm) := hcx 1 (by omega)
        have q2 : (w.drewN n).cell? ⟨b, o + j * 8 + 2, none⟩ = some (.int .i64 x.kd) := hcx 2 (by omega)
        have q3 : (w.drewN n).cell? ⟨b, o + j * 8 + 3, none⟩ = some (.int .i64 x.ty) := hcx 3 (by omega)
        have q4 : (w.drewN n).cell? ⟨b, o + j * 8 + 4, none⟩ = some (.bool x.mu) := hcx 4 (by omega)
        have q5 : (w.drewN n).cell? ⟨b, o + j * 8 + 5, none⟩ = some (.int .i64 x.lm.mn) := hcx 5 (by omega)
        have q6 : (w.drewN n).cell? ⟨b, o + j * 8 + 6, none⟩ = some (.int .i64 x.lm.mx) := hcx 6 (by omega)
        have q7 : (w.drewN n).cell? ⟨b, o + j * 8 + 7, none⟩ = some (.bool x.lm.hs) := hcx 7 (by omega)
        have r0 : (w.drewN n).cell? ⟨d, u + j * 8, none⟩ = some (.string y.md) := hcy 0 (by omega)
        have r1 : (w.drewN n).cell? ⟨d, u + j * 8 + 1, none⟩ = some (.string y.nm) := hcy 1 (by omega)
        have r2 : (w.drewN n).cell? ⟨d, u + j * 8 + 2, none⟩ = some (.int .i64 y.kd) := hcy 2 (by omega)
        have r3 : (w.drewN n).cell? ⟨d, u + j * 8 + 3, none⟩ = some (.int .i64 y.ty) := hcy 3 (by omega)
        have r4 : (w.drewN n).cell? ⟨d, u + j * 8 + 4, none⟩ = some (.bool y.mu) := hcy 4 (by omega)
        have r5 : (w.drewN n).cell? ⟨d, u + j * 8 + 5, none⟩ = some (.int .i64 y.lm.mn) := hcy 5 (by omega)
        have r6 : (w.drewN n).cell? ⟨d, u + j * 8 + 6, none⟩ = some (.int .i64 y.lm.mx) := hcy 6 (by omega)
        have r7 : (w.drewN n).cell? ⟨d, u + j * 8 + 7, none⟩ = some (.bool y.lm.hs) := hcy 7 (by omega)
        have hs1 : s.l.take (j + 1) = s.l.take j ++ [x] := by rw [List.take_add_one, hx]; rfl
        have hs2 : t.l.take (j + 1) = t.l.take j ++ [y] := by rw [List.take_add_one, hy]; rfl
        have hne : x ≠ y → s.l ≠ t.l := fun h e => by rw [e, hy] at hx; exact h (Option.some.inj hx).symm
        obtain ⟨w0, hw0⟩ : ∃ w0, w0 = w.drewN n := ⟨_, rfl⟩
        have hb1' : b < w0.heap.size := by rw [hw0]; exact hb
        have hb2' : d < w0.heap.size := by rw [hw0]; exact hd
        rw [← hw0] at q0 r0 q1 r1 q2 r2 q3 r3 q4 r4 q5 r5 q6 r6 q7 r7 ⊢
        rw [hA, hD]
        have HW := Lib.hid hw0
        have HS1 := Lib.hid hs1
        have HS2 := Lib.hid hs2
        have HNE := Lib.hid hne
        clear hcx hcy hx hy hokx hoky hA hD hw0 hs1 hs2 hne hb hd
        by_cases hxy : x = y
        · subst hxy
          go_wp2_with fail
          go_quiet (fail)
          go_wp2_with fail
          go_roundw
          case rel => exact ⟨j + 1, n + nq, by omega, by go_num, by rw [HW.out, World.drewN_drewN], by rw [HS1.out, HS2.out, HE.out]⟩
          case measure => simp [intOf]; omega
        · have tz : (x.md.toList == y.md.toList && x.nm.toList == y.nm.toList && x.kd == y.kd && x.ty == y.ty && x.mu == y.mu && (x.lm.mn == y.lm.mn && x.lm.mx == y.lm.mx && x.lm.hs == y.lm.hs)) = false := by
            rw [Bool.eq_false_iff]; intro e; apply hxy
            simp only [Bool.and_eq_true, beq_iff_eq] at e
            exact im_inj (bytes_inj e.1.1.1.1.1) (bytes_inj e.1.1.1.1.2) e.1.1.1.2 e.1.1.2 e.1.2 (lm_inj e.2.1.1 e.2.1.2 e.2.2)
          have HUV := Lib.hid hxy
          clear hxy
          go_wp2_with fail
          go_quiet (fail)
          go_wp2_with fail
          go_ret
          refine Tells.mk_ _ (by simp; exact HNE.out HUV.out) ?_
          rw [HW.out, World.drewN_drewN]; exact below_drewN _ _
      · have h1 := List.take_of_length_le (l := s.l) (i := j) (by omega)
        have h2 := List.take_of_length_le (l := t.l) (i := j) (by have := HL.out; omega)
        have HF := Lib.hid (show s.l = t.l by rw [← h1, ← h2]; exact HE.out)
        clear h1 h2
        go_wp2_with fail
        go_ret
        exact Tells.mk_ _ (by simp; exact HF.out) (below_drewN _ _)
  · have tl : ((s.l.length : Int) != (t.l.length : Int)) = true := by simp; omega
    have hne : s.l ≠ t.l := fun e => hl (by rw [e])
    have HNE := Lib.hid hne
    clear hne
    go_enter Tryz.func38, Tryz.ntmps38
    go_wp2_with fail
    go_ret
    exact Tells.mk_ _ (by simp; exact HNE.out) (Below.refl _ _)
end Go.Proofs.YtmdgemdollfnhaaGreatDoor
