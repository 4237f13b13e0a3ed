/- Contracts of slices.EqualFunc of the lists that a module is made of. -/
import Derived.Test.YtmdgemdollfnhaaGreatDoorTreeS3
namespace Go.Proofs.YtmdgemdollfnhaaGreatDoor
open Go.RowKit Trx

theorem map_take_ext {α β : Type} (k : α → β) {l m : List α} {j : Nat} {x y : α} (hx : l[j]? = some x) (hy : m[j]? = some y) (h : k x ≠ k y) : l.map k ≠ m.map k := fun e => by
  have h1 : (l.map k)[j]? = some (k x) := by rw [List.getElem?_map, hx]; rfl
  have h2 : (m.map k)[j]? = some (k y) := by rw [List.getElem?_map, hy]; rfl
  rw [e, h2] at h1
  exact h (Option.some.inj h1).symm
theorem map_take_snoc {α β : Type} (k : α → β) {l m : List α} {j : Nat} {x y : α} (hx : l[j]? = some x) (hy : m[j]? = some y) (h : k x = k y) (he : (l.take j).map k = (m.take j).map k) : (l.take (j + 1)).map k = (m.take (j + 1)).map k := by
  rw [List.take_add_one, List.take_add_one, hx, hy, List.map_append, List.map_append, he]
  simp [h]

def kTy (x : Ty) : List Int × List Int := (x.p.zs, x.r.zs)
theorem kTy_iff (x y : Ty) : eqTy x y ↔ kTy x = kTy y := by simp [eqTy, kTy]
set_option maxHeartbeats 16000000 in
set_option maxRecDepth 100000 in
theorem eqLTy_any (s t : SL Ty) (w : World) (hs : s.ok Ty.cells Ty.ok 2 48 w w.heap.size) (ht : t.ok Ty.cells Ty.ok 2 48 w w.heap.size) :
    Calls Tryz.prog 36 #[.slice s.A s.l.length s.c, .slice t.A t.l.length t.c, .func (.func 37) #[] #[]] w (Tells (s.l.map kTy = t.l.map kTy) w) := by
  have hm1 := Nat.le_trans hs.le hs.c
  have hm2 := Nat.le_trans ht.le ht.c
  unfold maxLen at hm1 hm2
  have H1 := Lib.hid hs
  have H2 := Lib.hid ht
  have HH := Lib.hid sameType_any
  unfold tyA at HH
  clear hs ht
  by_cases hl : s.l.length = t.l.length
  · rw [← hl]
    have tl : ((s.l.length : Int) != (s.l.length : Int)) = false := by simp
    have HL := Lib.hid hl
    clear hl
    go_enter Tryz.func36, Tryz.ntmps36
    go_wp2_with fail
    go_loopw [17] (fun i wr => ∃ j : Nat, j ≤ s.l.length ∧ i = .int .i64 j ∧ (s.l.take j).map kTy = (t.l.take j).map kTy ∧ Below w.heap.size w wr) (fun i _ => s.l.length - (intOf i).toNat)
    case atStart => exact ⟨0, by omega, rfl, by simp, Below.refl _ _⟩
    case round =>
      obtain ⟨j, hj, rfl, heq, hbel⟩ := hrel
      have HE := Lib.hid heq
      clear heq
      by_cases hlt : j < s.l.length
      · obtain ⟨b, o, x, hA, hx, hb, hokx, hcx⟩ := H1.out.at_ hlt
        obtain ⟨d, u, y, hD, hy, hd, hoky, hcy⟩ := H2.out.at_ (show j < t.l.length by have := HL.out; omega)
        have q0 : wr.cell? ⟨b, o + j * 2, none⟩ = some (.slice x.p.A x.p.zs.length x.p.c) := (hbel.cell (p := ⟨b, _, none⟩) hb).trans (hcx 0 (by omega))
        have q1 : wr.cell? ⟨b, o + j * 2 + 1, none⟩ = some (.slice x.r.A x.r.zs.length x.r.c) := (hbel.cell (p := ⟨b, _, none⟩) hb).trans (hcx 1 (by omega))
        have r0 : wr.cell? ⟨d, u + j * 2, none⟩ = some (.slice y.p.A y.p.zs.length y.p.c) := (hbel.cell (p := ⟨d, _, none⟩) hd).trans (hcy 0 (by omega))
        have r1 : wr.cell? ⟨d, u + j * 2 + 1, none⟩ = some (.slice y.r.A y.r.zs.length y.r.c) := (hbel.cell (p := ⟨d, _, none⟩) hd).trans (hcy 1 (by omega))
        have hbr := Nat.lt_of_lt_of_le hb hbel.size
        have hdr := Nat.lt_of_lt_of_le hd hbel.size
        have HC := Lib.hid (fun w' (h : Below w.heap.size w w') => HH.out x y w' (hokx.keep h.size (Below.kp h)) (hoky.keep h.size (Below.kp h)))
        have HNE := Lib.hid (map_take_ext kTy hx hy)
        have HSN := Lib.hid (fun h => map_take_snoc kTy hx hy h HE.out)
        have HK := Lib.hid (kTy_iff x y)
        have HB := Lib.hid hbel
        have hsz := hbel.size
        rw [hA, hD]
        clear hbel hcx hcy hx hy hokx hoky hA hD HH
        go_wp2_with (go_at_call 37; refine (HC.out _ ((HB.out.alloc hsz _).alloc (by simp; omega) _)).mono ?_; rintro e w1 ⟨⟨b1, rfl, hb1⟩, hbel⟩; have HP := Lib.hid hb1; have HB1 := Lib.hid ((((HB.out.alloc hsz _).alloc (by simp; omega) _)).trans (hbel.mono (by simp; omega))); clear hbel hb1)
        all_goals first
          | (rename_i hq; go_ret; exact Tells.mk_ _ (by simp; exact HNE.out fun e => absurd (HP.out.2 (HK.out.2 e)) (by simpa using hq)) HB1.out)
          | skip
        rename_i hq
        go_roundw
        case rel => exact ⟨j + 1, by omega, by go_num, HSN.out (HK.out.1 (HP.out.1 (by simpa using hq))), HB1.out⟩
        case measure => simp [intOf]; omega
      · have h1 := List.take_of_length_le (l := s.l) (i := j) (by omega)
        have h2 := List.take_of_length_le (l := t.l) (i := j) (by have := HL.out; omega)
        have HF := Lib.hid (show s.l.map kTy = t.l.map kTy by have := HE.out; rwa [h1, h2] at this)
        have HB := Lib.hid hbel
        clear h1 h2 hbel
        go_wp2_with fail
        go_ret
        exact Tells.mk_ _ (by simpa using HF.out) HB.out
  · have tl : ((s.l.length : Int) != (t.l.length : Int)) = true := by simp; omega
    have hne : s.l.map kTy ≠ t.l.map kTy := fun e => hl (by have := congrArg List.length e; simpa using this)
    have HNE := Lib.hid hne
    clear hne
    go_enter Tryz.func36, Tryz.ntmps36
    go_wp2_with fail
    go_ret
    exact Tells.mk_ _ (by simpa using HNE.out) (Below.refl _ _)

def kFn (x : Fn) : Int × List Int × Fo := (x.ty, x.lo.zs, x.bo.f)
theorem kFn_iff (x y : Fn) : eqFn x y ↔ kFn x = kFn y := by simp [eqFn, kFn]
set_option maxHeartbeats 16000000 in
set_option maxRecDepth 100000 in
theorem eqLFn_any (s t : SL Fn) (w : World) (hs : s.ok Fn.cells Fn.ok 3 56 w w.heap.size) (ht : t.ok Fn.cells Fn.ok 3 56 w w.heap.size) :
    Calls Tryz.prog 39 #[.slice s.A s.l.length s.c, .slice t.A t.l.length t.c, .func (.func 40) #[] #[]] w (Tells (s.l.map kFn = t.l.map kFn) w) := by
  have hm1 := Nat.le_trans hs.le hs.c
  have hm2 := Nat.le_trans ht.le ht.c
  unfold maxLen at hm1 hm2
  have H1 := Lib.hid hs
  have H2 := Lib.hid ht
  have HH := Lib.hid sameFunc_any
  unfold fnA at HH
  clear hs ht
  by_cases hl : s.l.length = t.l.length
  · rw [← hl]
    have tl : ((s.l.length : Int) != (s.l.length : Int)) = false := by simp
    have HL := Lib.hid hl
    clear hl
    go_enter Tryz.func39, Tryz.ntmps39
    go_wp2_with fail
    go_loopw [17] (fun i wr => ∃ j : Nat, j ≤ s.l.length ∧ i = .int .i64 j ∧ (s.l.take j).map kFn = (t.l.take j).map kFn ∧ Below w.heap.size w wr) (fun i _ => s.l.length - (intOf i).toNat)
    case atStart => exact ⟨0, by omega, rfl, by simp, Below.refl _ _⟩
    case round =>
      obtain ⟨j, hj, rfl, heq, hbel⟩ := hrel
      have HE := Lib.hid heq
      clear heq
      by_cases hlt : j < s.l.length
      · obtain ⟨b, o, x, hA, hx, hb, hokx, hcx⟩ := H1.out.at_ hlt
        obtain ⟨d, u, y, hD, hy, hd, hoky, hcy⟩ := H2.out.at_ (show j < t.l.length by have := HL.out; omega)
        have q0 : wr.cell? ⟨b, o + j * 3, none⟩ = some (.int .i64 x.ty) := (hbel.cell (p := ⟨b, _, none⟩) hb).trans (hcx 0 (by omega))
        have q1 : wr.cell? ⟨b, o + j * 3 + 1, none⟩ = some (.slice x.lo.A x.lo.zs.length x.lo.c) := (hbel.cell (p := ⟨b, _, none⟩) hb).trans (hcx 1 (by omega))
        have q2 : wr.cell? ⟨b, o + j * 3 + 2, none⟩ = some (.slice x.bo.A (len x.bo.f) x.bo.c) := (hbel.cell (p := ⟨b, _, none⟩) hb).trans (hcx 2 (by omega))
        have r0 : wr.cell? ⟨d, u + j * 3, none⟩ = some (.int .i64 y.ty) := (hbel.cell (p := ⟨d, _, none⟩) hd).trans (hcy 0 (by omega))
        have r1 : wr.cell? ⟨d, u + j * 3 + 1, none⟩ = some (.slice y.lo.A y.lo.zs.length y.lo.c) := (hbel.cell (p := ⟨d, _, none⟩) hd).trans (hcy 1 (by omega))
        have r2 : wr.cell? ⟨d, u + j * 3 + 2, none⟩ = some (.slice y.bo.A (len y.bo.f) y.bo.c) := (hbel.cell (p := ⟨d, _, none⟩) hd).trans (hcy 2 (by omega))
        have hbr := Nat.lt_of_lt_of_le hb hbel.size
        have hdr := Nat.lt_of_lt_of_le hd hbel.size
        have HC := Lib.hid (fun w' (h : Below w.heap.size w w') => HH.out x y w' (hokx.keep h.size (Below.kp h)) (hoky.keep h.size (Below.kp h)))
        have HNE := Lib.hid (map_take_ext kFn hx hy)
        have HSN := Lib.hid (fun h => map_take_snoc kFn hx hy h HE.out)
        have HK := Lib.hid (kFn_iff x y)
        have HB := Lib.hid hbel
        have hsz := hbel.size
        rw [hA, hD]
        clear hbel hcx hcy hx hy hokx hoky hA hD HH
        go_wp2_with (go_at_call 40; refine (HC.out _ ((HB.out.alloc hsz _).alloc (by simp; omega) _)).mono ?_; rintro e w1 ⟨⟨b1, rfl, hb1⟩, hbel⟩; have HP := Lib.hid hb1; have HB1 := Lib.hid ((((HB.out.alloc hsz _).alloc (by simp; omega) _)).trans (hbel.mono (by simp; omega))); clear hbel hb1)
        all_goals first
          | (rename_i hq; go_ret; exact Tells.mk_ _ (by simp; exact HNE.out fun e => absurd (HP.out.2 (HK.out.2 e)) (by simpa using hq)) HB1.out)
          | skip
        rename_i hq
        go_roundw
        case rel => exact ⟨j + 1, by omega, by go_num, HSN.out (HK.out.1 (HP.out.1 (by simpa using hq))), HB1.out⟩
        case measure => simp [intOf]; omega
      · have h1 := List.take_of_length_le (l := s.l) (i := j) (by omega)
        have h2 := List.take_of_length_le (l := t.l) (i := j) (by have := HL.out; omega)
        have HF := Lib.hid (show s.l.map kFn = t.l.map kFn by have := HE.out; rwa [h1, h2] at this)
        have HB := Lib.hid hbel
        clear h1 h2 hbel
        go_wp2_with fail
        go_ret
        exact Tells.mk_ _ (by simpa using HF.out) HB.out
  · have tl : ((s.l.length : Int) != (t.l.length : Int)) = true := by simp; omega
    have hne : s.l.map kFn ≠ t.l.map kFn := fun e => hl (by have := congrArg List.length e; simpa using this)
    have HNE := Lib.hid hne
    clear hne
    go_enter Tryz.func39, Tryz.ntmps39
    go_wp2_with fail
    go_ret
    exact Tells.mk_ _ (by simpa using HNE.out) (Below.refl _ _)

def kGl (x : Gl) : Int × Bool × Nd := (x.ty, x.mu, x.i.n)
theorem kGl_iff (x y : Gl) : eqGl x y ↔ kGl x = kGl y := by simp [eqGl, kGl]
set_option maxHeartbeats 16000000 in
set_option maxRecDepth 100000 in
theorem eqLGl_any (s t : SL Gl) (w : World) (hs : s.ok Gl.cells Gl.ok 11 136 w w.heap.size) (ht : t.ok Gl.cells Gl.ok 11 136 w w.heap.size) :
    Calls Tryz.prog 42 #[.slice s.A s.l.length s.c, .slice t.A t.l.length t.c, .func (.func 43) #[] #[]] w (Tells (s.l.map kGl = t.l.map kGl) w) := by
  have hm1 := Nat.le_trans hs.le hs.c
  have hm2 := Nat.le_trans ht.le ht.c
  unfold maxLen at hm1 hm2
  have H1 := Lib.hid hs
  have H2 := Lib.hid ht
  have HH := Lib.hid sameGlobal_any
  unfold glA at HH
  clear hs ht
  by_cases hl : s.l.length = t.l.length
  · rw [← hl]
    have tl : ((s.l.length : Int) != (s.l.length : Int)) = false := by simp
    have HL := Lib.hid hl
    clear hl
    go_enter Tryz.func42, Tryz.ntmps42
    go_wp2_with fail
    go_loopw [17] (fun i wr => ∃ j : Nat, j ≤ s.l.length ∧ i = .int .i64 j ∧ (s.l.take j).map kGl = (t.l.take j).map kGl ∧ Below w.heap.size w wr) (fun i _ => s.l.length - (intOf i).toNat)
    case atStart => exact ⟨0, by omega, rfl, by simp, Below.refl _ _⟩
    case round =>
      obtain ⟨j, hj, rfl, heq, hbel⟩ := hrel
      have HE := Lib.hid heq
      clear heq
      by_cases hlt : j < s.l.length
      · obtain ⟨b, o, x, hA, hx, hb, hokx, hcx⟩ := H1.out.at_ hlt
        obtain ⟨d, u, y, hD, hy, hd, hoky, hcy⟩ := H2.out.at_ (show j < t.l.length by have := HL.out; omega)
        have q0 : wr.cell? ⟨b, o + j * 11, none⟩ = some (.int .i64 x.ty) := (hbel.cell (p := ⟨b, _, none⟩) hb).trans (hcx 0 (by omega))
        have q1 : wr.cell? ⟨b, o + j * 11 + 1, none⟩ = some (.bool x.mu) := (hbel.cell (p := ⟨b, _, none⟩) hb).trans (hcx 1 (by omega))
        have q2 : wr.cell? ⟨b, o + j * 11 + 2, none⟩ = some (.int .i64 x.i.n.op) := (hbel.cell (p := ⟨b, _, none⟩) hb).trans (hcx 2 (by omega))
        have q3 : wr.cell? ⟨b, o + j * 11 + 3, none⟩ = some (.int .i64 x.i.n.a) := (hbel.cell (p := ⟨b, _, none⟩) hb).trans (hcx 3 (by omega))
        have q4 : wr.cell? ⟨b, o + j * 11 + 4, none⟩ = some (.int .i64 x.i.n.b) := (hbel.cell (p := ⟨b, _, none⟩) hb).trans (hcx 4 (by omega))
        have q5 : wr.cell? ⟨b, o + j * 11 + 5, none⟩ = some (.int .u64 x.i.n.v) := (hbel.cell (p := ⟨b, _, none⟩) hb).trans (hcx 5 (by omega))
        have q6 : wr.cell? ⟨b, o + j * 11 + 6, none⟩ = some (.int .i64 x.i.n.t) := (hbel.cell (p := ⟨b, _, none⟩) hb).trans (hcx 6 (by omega))
        have q7 : wr.cell? ⟨b, o + j * 11 + 7, none⟩ = some (.slice x.i.p.AL x.i.n.L.length x.i.p.cL) := (hbel.cell (p := ⟨b, _, none⟩) hb).trans (hcx 7 (by omega))
        have q8 : wr.cell? ⟨b, o + j * 11 + 8, none⟩ = some (.slice x.i.p.Ab (len x.i.n.body) x.i.p.cb) := (hbel.cell (p := ⟨b, _, none⟩) hb).trans (hcx 8 (by omega))
        have q9 : wr.cell? ⟨b, o + j * 11 + 9, none⟩ = some (.slice x.i.p.Ae (len x.i.n.els) x.i.p.ce) := (hbel.cell (p := ⟨b, _, none⟩) hb).trans (hcx 9 (by omega))
        have q10 : wr.cell? ⟨b, o + j * 11 + 10, none⟩ = some (.bool x.i.n.he) := (hbel.cell (p := ⟨b, _, none⟩) hb).trans (hcx 10 (by omega))
        have r0 : wr.cell? ⟨d, u + j * 11, none⟩ = some (.int .i64 y.ty) := (hbel.cell (p := ⟨d, _, none⟩) hd).trans (hcy 0 (by omega))
        have r1 : wr.cell? ⟨d, u + j * 11 + 1, none⟩ = some (.bool y.mu) := (hbel.cell (p := ⟨d, _, none⟩) hd).trans (hcy 1 (by omega))
        have r2 : wr.cell? ⟨d, u + j * 11 + 2, none⟩ = some (.int .i64 y.i.n.op) := (hbel.cell (p := ⟨d, _, none⟩) hd).trans (hcy 2 (by omega))
        have r3 : wr.cell? ⟨d, u + j * 11 + 3, none⟩ = some (.int .i64 y.i.n.a) := (hbel.cell (p := ⟨d, _, none⟩) hd).trans (hcy 3 (by omega))
        have r4 : wr.cell? ⟨d, u + j * 11 + 4, none⟩ = some (.int .i64 y.i.n.b) := (hbel.cell (p := ⟨d, _, none⟩) hd).trans (hcy 4 (by omega))
        have r5 : wr.cell? ⟨d, u + j * 11 + 5, none⟩ = some (.int .u64 y.i.n.v) := (hbel.cell (p := ⟨d, _, none⟩) hd).trans (hcy 5 (by omega))
        have r6 : wr.cell? ⟨d, u + j * 11 + 6, none⟩ = some (.int .i64 y.i.n.t) := (hbel.cell (p := ⟨d, _, none⟩) hd).trans (hcy 6 (by omega))
        have r7 : wr.cell? ⟨d, u + j * 11 + 7, none⟩ = some (.slice y.i.p.AL y.i.n.L.length y.i.p.cL) := (hbel.cell (p := ⟨d, _, none⟩) hd).trans (hcy 7 (by omega))
        have r8 : wr.cell? ⟨d, u + j * 11 + 8, none⟩ = some (.slice y.i.p.Ab (len y.i.n.body) y.i.p.cb) := (hbel.cell (p := ⟨d, _, none⟩) hd).trans (hcy 8 (by omega))
        have r9 : wr.cell? ⟨d, u + j * 11 + 9, none⟩ = some (.slice y.i.p.Ae (len y.i.n.els) y.i.p.ce) := (hbel.cell (p := ⟨d, _, none⟩) hd).trans (hcy 9 (by omega))
        have r10 : wr.cell? ⟨d, u + j * 11 + 10, none⟩ = some (.bool y.i.n.he) := (hbel.cell (p := ⟨d, _, none⟩) hd).trans (hcy 10 (by omega))
        have hbr := Nat.lt_of_lt_of_le hb hbel.size
        have hdr := Nat.lt_of_lt_of_le hd hbel.size
        have HC := Lib.hid (fun w' (h : Below w.heap.size w w') => HH.out x y w' (hokx.keep h.size (Below.kp h)) (hoky.keep h.size (Below.kp h)))
        have HNE := Lib.hid (map_take_ext kGl hx hy)
        have HSN := Lib.hid (fun h => map_take_snoc kGl hx hy h HE.out)
        have HK := Lib.hid (kGl_iff x y)
        have HB := Lib.hid hbel
        have hsz := hbel.size
        rw [hA, hD]
        clear hbel hcx hcy hx hy hokx hoky hA hD HH
        go_wp2_with (go_at_call 43; refine (HC.out _ ((HB.out.alloc hsz _).alloc (by simp; omega) _)).mono ?_; rintro e w1 ⟨⟨b1, rfl, hb1⟩, hbel⟩; have HP := Lib.hid hb1; have HB1 := Lib.hid ((((HB.out.alloc hsz _).alloc (by simp; omega) _)).trans (hbel.mono (by simp; omega))); clear hbel hb1)
        all_goals first
          | (rename_i hq; go_ret; exact Tells.mk_ _ (by simp; exact HNE.out fun e => absurd (HP.out.2 (HK.out.2 e)) (by simpa using hq)) HB1.out)
          | skip
        rename_i hq
        go_roundw
        case rel => exact ⟨j + 1, by omega, by go_num, HSN.out (HK.out.1 (HP.out.1 (by simpa using hq))), HB1.out⟩
        case measure => simp [intOf]; omega
      · have h1 := List.take_of_length_le (l := s.l) (i := j) (by omega)
        have h2 := List.take_of_length_le (l := t.l) (i := j) (by have := HL.out; omega)
        have HF := Lib.hid (show s.l.map kGl = t.l.map kGl by have := HE.out; rwa [h1, h2] at this)
        have HB := Lib.hid hbel
        clear h1 h2 hbel
        go_wp2_with fail
        go_ret
        exact Tells.mk_ _ (by simpa using HF.out) HB.out
  · have tl : ((s.l.length : Int) != (t.l.length : Int)) = true := by simp; omega
    have hne : s.l.map kGl ≠ t.l.map kGl := fun e => hl (by have := congrArg List.length e; simpa using this)
    have HNE := Lib.hid hne
    clear hne
    go_enter Tryz.func42, Tryz.ntmps42
    go_wp2_with fail
    go_ret
    exact Tells.mk_ _ (by simpa using HNE.out) (Below.refl _ _)

def kEl (x : El) : Nd × List Int := (x.i.n, x.fs.zs)
theorem kEl_iff (x y : El) : eqEl x y ↔ kEl x = kEl y := by simp [eqEl, kEl]
set_option maxHeartbeats 16000000 in
set_option maxRecDepth 100000 in
theorem eqLEl_any (s t : SL El) (w : World) (hs : s.ok El.cells El.ok 10 144 w w.heap.size) (ht : t.ok El.cells El.ok 10 144 w w.heap.size) :
    Calls Tryz.prog 45 #[.slice s.A s.l.length s.c, .slice t.A t.l.length t.c, .func (.func 46) #[] #[]] w (Tells (s.l.map kEl = t.l.map kEl) w) := by
  have hm1 := Nat.le_trans hs.le hs.c
  have hm2 := Nat.le_trans ht.le ht.c
  unfold maxLen at hm1 hm2
  have H1 := Lib.hid hs
  have H2 := Lib.hid ht
  have HH := Lib.hid sameElem_any
  unfold elA at HH
  clear hs ht
  by_cases hl : s.l.length = t.l.length
  · rw [← hl]
    have tl : ((s.l.length : Int) != (s.l.length : Int)) = false := by simp
    have HL := Lib.hid hl
    clear hl
    go_enter Tryz.func45, Tryz.ntmps45
    go_wp2_with fail
    go_loopw [17] (fun i wr => ∃ j : Nat, j ≤ s.l.length ∧ i = .int .i64 j ∧ (s.l.take j).map kEl = (t.l.take j).map kEl ∧ Below w.heap.size w wr) (fun i _ => s.l.length - (intOf i).toNat)
    case atStart => exact ⟨0, by omega, rfl, by simp, Below.refl _ _⟩
    case round =>
      obtain ⟨j, hj, rfl, heq, hbel⟩ := hrel
      have HE := Lib.hid heq
      clear heq
      by_cases hlt : j < s.l.length
      · obtain ⟨b, o, x, hA, hx, hb, hokx, hcx⟩ := H1.out.at_ hlt
        obtain ⟨d, u, y, hD, hy, hd, hoky, hcy⟩ := H2.out.at_ (show j < t.l.length by have := HL.out; omega)
        have q0 : wr.cell? ⟨b, o + j * 10, none⟩ = some (.int .i64 x.i.n.op) := (hbel.cell (p := ⟨b, _, none⟩) hb).trans (hcx 0 (by omega))
        have q1 : wr.cell? ⟨b, o + j * 10 + 1, none⟩ = some (.int .i64 x.i.n.a) := (hbel.cell (p := ⟨b, _, none⟩) hb).trans (hcx 1 (by omega))
        have q2 : wr.cell? ⟨b, o + j * 10 + 2, none⟩ = some (.int .i64 x.i.n.b) := (hbel.cell (p := ⟨b, _, none⟩) hb).trans (hcx 2 (by omega))
        have q3 : wr.cell? ⟨b, o + j * 10 + 3, none⟩ = some (.int .u64 x.i.n.v) := (hbel.cell (p := ⟨b, _, none⟩) hb).trans (hcx 3 (by omega))
        have q4 : wr.cell? ⟨b, o + j * 10 + 4, none⟩ = some (.int .i64 x.i.n.t) := (hbel.cell (p := ⟨b, _, none⟩) hb).trans (hcx 4 (by omega))
        have q5 : wr.cell? ⟨b, o + j * 10 + 5, none⟩ = some (.slice x.i.p.AL x.i.n.L.length x.i.p.cL) := (hbel.cell (p := ⟨b, _, none⟩) hb).trans (hcx 5 (by omega))
        have q6 : wr.cell? ⟨b, o + j * 10 + 6, none⟩ = some (.slice x.i.p.Ab (len x.i.n.body) x.i.p.cb) := (hbel.cell (p := ⟨b, _, none⟩) hb).trans (hcx 6 (by omega))
        have q7 : wr.cell? ⟨b, o + j * 10 + 7, none⟩ = some (.slice x.i.p.Ae (len x.i.n.els) x.i.p.ce) := (hbel.cell (p := ⟨b, _, none⟩) hb).trans (hcx 7 (by omega))
        have q8 : wr.cell? ⟨b, o + j * 10 + 8, none⟩ = some (.bool x.i.n.he) := (hbel.cell (p := ⟨b, _, none⟩) hb).trans (hcx 8 (by omega))
        have q9 : wr.cell? ⟨b, o + j * 10 + 9, none⟩ = some (.slice x.fs.A x.fs.zs.length x.fs.c) := (hbel.cell (p := ⟨b, _, none⟩) hb).trans (hcx 9 (by omega))
        have r0 : wr.cell? ⟨d, u + j * 10, none⟩ = some (.int .i64 y.i.n.op) := (hbel.cell (p := ⟨d, _, none⟩) hd).trans (hcy 0 (by omega))
        have r1 : wr.cell? ⟨d, u + j * 10 + 1, none⟩ = some (.int .i64 y.i.n.a) := (hbel.cell (p := ⟨d, _, none⟩) hd).trans (hcy 1 (by omega))
        have r2 : wr.cell? ⟨d, u + j * 10 + 2, none⟩ = some (.int .i64 y.i.n.b) := (hbel.cell (p := ⟨d, _, none⟩) hd).trans (hcy 2 (by omega))
        have r3 : wr.cell? ⟨d, u + j * 10 + 3, none⟩ = some (.int .u64 y.i.n.v) := (hbel.cell (p := ⟨d, _, none⟩) hd).trans (hcy 3 (by omega))
        have r4 : wr.cell? ⟨d, u + j * 10 + 4, none⟩ = some (.int .i64 y.i.n.t) := (hbel.cell (p := ⟨d, _, none⟩) hd).trans (hcy 4 (by omega))
        have r5 : wr.cell? ⟨d, u + j * 10 + 5, none⟩ = some (.slice y.i.p.AL y.i.n.L.length y.i.p.cL) := (hbel.cell (p := ⟨d, _, none⟩) hd).trans (hcy 5 (by omega))
        have r6 : wr.cell? ⟨d, u + j * 10 + 6, none⟩ = some (.slice y.i.p.Ab (len y.i.n.body) y.i.p.cb) := (hbel.cell (p := ⟨d, _, none⟩) hd).trans (hcy 6 (by omega))
        have r7 : wr.cell? ⟨d, u + j * 10 + 7, none⟩ = some (.slice y.i.p.Ae (len y.i.n.els) y.i.p.ce) := (hbel.cell (p := ⟨d, _, none⟩) hd).trans (hcy 7 (by omega))
        have r8 : wr.cell? ⟨d, u + j * 10 + 8, none⟩ = some (.bool y.i.n.he) := (hbel.cell (p := ⟨d, _, none⟩) hd).trans (hcy 8 (by omega))
        have r9 : wr.cell? ⟨d, u + j * 10 + 9, none⟩ = some (.slice y.fs.A y.fs.zs.length y.fs.c) := (hbel.cell (p := ⟨d, _, none⟩) hd).trans (hcy 9 (by omega))
        have hbr := Nat.lt_of_lt_of_le hb hbel.size
        have hdr := Nat.lt_of_lt_of_le hd hbel.size
        have HC := Lib.hid (fun w' (h : Below w.heap.size w w') => HH.out x y w' (hokx.keep h.size (Below.kp h)) (hoky.keep h.size (Below.kp h)))
        have HNE := Lib.hid (map_take_ext kEl hx hy)
        have HSN := Lib.hid (fun h => map_take_snoc kEl hx hy h HE.out)
        have HK := Lib.hid (kEl_iff x y)
        have HB := Lib.hid hbel
        have hsz := hbel.size
        rw [hA, hD]
        clear hbel hcx hcy hx hy hokx hoky hA hD HH
        go_wp2_with (go_at_call 46; refine (HC.out _ ((HB.out.alloc hsz _).alloc (by simp; omega) _)).mono ?_; rintro e w1 ⟨⟨b1, rfl, hb1⟩, hbel⟩; have HP := Lib.hid hb1; have HB1 := Lib.hid ((((HB.out.alloc hsz _).alloc (by simp; omega) _)).trans (hbel.mono (by simp; omega))); clear hbel hb1)
        all_goals first
          | (rename_i hq; go_ret; exact Tells.mk_ _ (by simp; exact HNE.out fun e => absurd (HP.out.2 (HK.out.2 e)) (by simpa using hq)) HB1.out)
          | skip
        rename_i hq
        go_roundw
        case rel => exact ⟨j + 1, by omega, by go_num, HSN.out (HK.out.1 (HP.out.1 (by simpa using hq))), HB1.out⟩
        case measure => simp [intOf]; omega
      · have h1 := List.take_of_length_le (l := s.l) (i := j) (by omega)
        have h2 := List.take_of_length_le (l := t.l) (i := j) (by have := HL.out; omega)
        have HF := Lib.hid (show s.l.map kEl = t.l.map kEl by have := HE.out; rwa [h1, h2] at this)
        have HB := Lib.hid hbel
        clear h1 h2 hbel
        go_wp2_with fail
        go_ret
        exact Tells.mk_ _ (by simpa using HF.out) HB.out
  · have tl : ((s.l.length : Int) != (t.l.length : Int)) = true := by simp; omega
    have hne : s.l.map kEl ≠ t.l.map kEl := fun e => hl (by have := congrArg List.length e; simpa using this)
    have HNE := Lib.hid hne
    clear hne
    go_enter Tryz.func45, Tryz.ntmps45
    go_wp2_with fail
    go_ret
    exact Tells.mk_ _ (by simpa using HNE.out) (Below.refl _ _)

def kDa (x : Da) : Nd × List UInt8 := (x.i.n, x.bs.bs)
theorem kDa_iff (x y : Da) : eqDa x y ↔ kDa x = kDa y := by simp [eqDa, kDa]
set_option maxHeartbeats 16000000 in
set_option maxRecDepth 100000 in
theorem eqLDa_any (s t : SL Da) (w : World) (hs : s.ok Da.cells Da.ok 10 144 w w.heap.size) (ht : t.ok Da.cells Da.ok 10 144 w w.heap.size) :
    Calls Tryz.prog 47 #[.slice s.A s.l.length s.c, .slice t.A t.l.length t.c, .func (.func 48) #[] #[]] w (Tells (s.l.map kDa = t.l.map kDa) w) := by
  have hm1 := Nat.le_trans hs.le hs.c
  have hm2 := Nat.le_trans ht.le ht.c
  unfold maxLen at hm1 hm2
  have H1 := Lib.hid hs
  have H2 := Lib.hid ht
  have HH := Lib.hid sameData_any
  unfold daA at HH
  clear hs ht
  by_cases hl : s.l.length = t.l.length
  · rw [← hl]
    have tl : ((s.l.length : Int) != (s.l.length : Int)) = false := by simp
    have HL := Lib.hid hl
    clear hl
    go_enter Tryz.func47, Tryz.ntmps47
    go_wp2_with fail
    go_loopw [17] (fun i wr => ∃ j : Nat, j ≤ s.l.length ∧ i = .int .i64 j ∧ (s.l.take j).map kDa = (t.l.take j).map kDa ∧ Below w.heap.size w wr) (fun i _ => s.l.length - (intOf i).toNat)
    case atStart => exact ⟨0, by omega, rfl, by simp, Below.refl _ _⟩
    case round =>
      obtain ⟨j, hj, rfl, heq, hbel⟩ := hrel
      have HE := Lib.hid heq
      clear heq
      by_cases hlt : j < s.l.length
      · obtain ⟨b, o, x, hA, hx, hb, hokx, hcx⟩ := H1.out.at_ hlt
        obtain ⟨d, u, y, hD, hy, hd, hoky, hcy⟩ := H2.out.at_ (show j < t.l.length by have := HL.out; omega)
        have q0 : wr.cell? ⟨b, o + j * 10, none⟩ = some (.int .i64 x.i.n.op) := (hbel.cell (p := ⟨b, _, none⟩) hb).trans (hcx 0 (by omega))
        have q1 : wr.cell? ⟨b, o + j * 10 + 1, none⟩ = some (.int .i64 x.i.n.a) := (hbel.cell (p := ⟨b, _, none⟩) hb).trans (hcx 1 (by omega))
        have q2 : wr.cell? ⟨b, o + j * 10 + 2, none⟩ = some (.int .i64 x.i.n.b) := (hbel.cell (p := ⟨b, _, none⟩) hb).trans (hcx 2 (by omega))
        have q3 : wr.cell? ⟨b, o + j * 10 + 3, none⟩ = some (.int .u64 x.i.n.v) := (hbel.cell (p := ⟨b, _, none⟩) hb).trans (hcx 3 (by omega))
        have q4 : wr.cell? ⟨b, o + j * 10 + 4, none⟩ = some (.int .i64 x.i.n.t) := (hbel.cell (p := ⟨b, _, none⟩) hb).trans (hcx 4 (by omega))
        have q5 : wr.cell? ⟨b, o + j * 10 + 5, none⟩ = some (.slice x.i.p.AL x.i.n.L.length x.i.p.cL) := (hbel.cell (p := ⟨b, _, none⟩) hb).trans (hcx 5 (by omega))
        have q6 : wr.cell? ⟨b, o + j * 10 + 6, none⟩ = some (.slice x.i.p.Ab (len x.i.n.body) x.i.p.cb) := (hbel.cell (p := ⟨b, _, none⟩) hb).trans (hcx 6 (by omega))
        have q7 : wr.cell? ⟨b, o + j * 10 + 7, none⟩ = some (.slice x.i.p.Ae (len x.i.n.els) x.i.p.ce) := (hbel.cell (p := ⟨b, _, none⟩) hb).trans (hcx 7 (by omega))
        have q8 : wr.cell? ⟨b, o + j * 10 + 8, none⟩ = some (.bool x.i.n.he) := (hbel.cell (p := ⟨b, _, none⟩) hb).trans (hcx 8 (by omega))
        have q9 : wr.cell? ⟨b, o + j * 10 + 9, none⟩ = some (.slice x.bs.A x.bs.bs.length x.bs.c) := (hbel.cell (p := ⟨b, _, none⟩) hb).trans (hcx 9 (by omega))
        have r0 : wr.cell? ⟨d, u + j * 10, none⟩ = some (.int .i64 y.i.n.op) := (hbel.cell (p := ⟨d, _, none⟩) hd).trans (hcy 0 (by omega))
        have r1 : wr.cell? ⟨d, u + j * 10 + 1, none⟩ = some (.int .i64 y.i.n.a) := (hbel.cell (p := ⟨d, _, none⟩) hd).trans (hcy 1 (by omega))
        have r2 : wr.cell? ⟨d, u + j * 10 + 2, none⟩ = some (.int .i64 y.i.n.b) := (hbel.cell (p := ⟨d, _, none⟩) hd).trans (hcy 2 (by omega))
        have r3 : wr.cell? ⟨d, u + j * 10 + 3, none⟩ = some (.int .u64 y.i.n.v) := (hbel.cell (p := ⟨d, _, none⟩) hd).trans (hcy 3 (by omega))
        have r4 : wr.cell? ⟨d, u + j * 10 + 4, none⟩ = some (.int .i64 y.i.n.t) := (hbel.cell (p := ⟨d, _, none⟩) hd).trans (hcy 4 (by omega))
        have r5 : wr.cell? ⟨d, u + j * 10 + 5, none⟩ = some (.slice y.i.p.AL y.i.n.L.length y.i.p.cL) := (hbel.cell (p := ⟨d, _, none⟩) hd).trans (hcy 5 (by omega))
        have r6 : wr.cell? ⟨d, u + j * 10 + 6, none⟩ = some (.slice y.i.p.Ab (len y.i.n.body) y.i.p.cb) := (hbel.cell (p := ⟨d, _, none⟩) hd).trans (hcy 6 (by omega))
        have r7 : wr.cell? ⟨d, u + j * 10 + 7, none⟩ = some (.slice y.i.p.Ae (len y.i.n.els) y.i.p.ce) := (hbel.cell (p := ⟨d, _, none⟩) hd).trans (hcy 7 (by omega))
        have r8 : wr.cell? ⟨d, u + j * 10 + 8, none⟩ = some (.bool y.i.n.he) := (hbel.cell (p := ⟨d, _, none⟩) hd).trans (hcy 8 (by omega))
        have r9 : wr.cell? ⟨d, u + j * 10 + 9, none⟩ = some (.slice y.bs.A y.bs.bs.length y.bs.c) := (hbel.cell (p := ⟨d, _, none⟩) hd).trans (hcy 9 (by omega))
        have hbr := Nat.lt_of_lt_of_le hb hbel.size
        have hdr := Nat.lt_of_lt_of_le hd hbel.size
        have HC := Lib.hid (fun w' (h : Below w.heap.size w w') => HH.out x y w' (hokx.keep h.size (Below.kp h)) (hoky.keep h.size (Below.kp h)))
        have HNE := Lib.hid (map_take_ext kDa hx hy)
        have HSN := Lib.hid (fun h => map_take_snoc kDa hx hy h HE.out)
        have HK := Lib.hid (kDa_iff x y)
        have HB := Lib.hid hbel
        have hsz := hbel.size
        rw [hA, hD]
        clear hbel hcx hcy hx hy hokx hoky hA hD HH
        go_wp2_with (go_at_call 48; refine (HC.out _ ((HB.out.alloc hsz _).alloc (by simp; omega) _)).mono ?_; rintro e w1 ⟨⟨b1, rfl, hb1⟩, hbel⟩; have HP := Lib.hid hb1; have HB1 := Lib.hid ((((HB.out.alloc hsz _).alloc (by simp; omega) _)).trans (hbel.mono (by simp; omega))); clear hbel hb1)
        all_goals first
          | (rename_i hq; go_ret; exact Tells.mk_ _ (by simp; exact HNE.out fun e => absurd (HP.out.2 (HK.out.2 e)) (by simpa using hq)) HB1.out)
          | skip
        rename_i hq
        go_roundw
        case rel => exact ⟨j + 1, by omega, by go_num, HSN.out (HK.out.1 (HP.out.1 (by simpa using hq))), HB1.out⟩
        case measure => simp [intOf]; omega
      · have h1 := List.take_of_length_le (l := s.l) (i := j) (by omega)
        have h2 := List.take_of_length_le (l := t.l) (i := j) (by have := HL.out; omega)
        have HF := Lib.hid (show s.l.map kDa = t.l.map kDa by have := HE.out; rwa [h1, h2] at this)
        have HB := Lib.hid hbel
        clear h1 h2 hbel
        go_wp2_with fail
        go_ret
        exact Tells.mk_ _ (by simpa using HF.out) HB.out
  · have tl : ((s.l.length : Int) != (t.l.length : Int)) = true := by simp; omega
    have hne : s.l.map kDa ≠ t.l.map kDa := fun e => hl (by have := congrArg List.length e; simpa using this)
    have HNE := Lib.hid hne
    clear hne
    go_enter Tryz.func47, Tryz.ntmps47
    go_wp2_with fail
    go_ret
    exact Tells.mk_ _ (by simpa using HNE.out) (Below.refl _ _)

def kCu (x : Cu) : ByteArray × List UInt8 := (x.nm, x.bs.bs)
theorem kCu_iff (x y : Cu) : eqCu x y ↔ kCu x = kCu y := by simp [eqCu, kCu]
set_option maxHeartbeats 16000000 in
set_option maxRecDepth 100000 in
theorem eqLCu_any (s t : SL Cu) (w : World) (hs : s.ok Cu.cells Cu.ok 2 40 w w.heap.size) (ht : t.ok Cu.cells Cu.ok 2 40 w w.heap.size) :
    Calls Tryz.prog 49 #[.slice s.A s.l.length s.c, .slice t.A t.l.length t.c, .func (.func 50) #[] #[]] w (Tells (s.l.map kCu = t.l.map kCu) w) := by
  have hm1 := Nat.le_trans hs.le hs.c
  have hm2 := Nat.le_trans ht.le ht.c
  unfold maxLen at hm1 hm2
  have H1 := Lib.hid hs
  have H2 := Lib.hid ht
  have HH := Lib.hid sameCustom_any
  unfold cuA at HH
  clear hs ht
  by_cases hl : s.l.length = t.l.length
  · rw [← hl]
    have tl : ((s.l.length : Int) != (s.l.length : Int)) = false := by simp
    have HL := Lib.hid hl
    clear hl
    go_enter Tryz.func49, Tryz.ntmps49
    go_wp2_with fail
    go_loopw [17] (fun i wr => ∃ j : Nat, j ≤ s.l.length ∧ i = .int .i64 j ∧ (s.l.take j).map kCu = (t.l.take j).map kCu ∧ Below w.heap.size w wr) (fun i _ => s.l.length - (intOf i).toNat)
    case atStart => exact ⟨0, by omega, rfl, by simp, Below.refl _ _⟩
    case round =>
      obtain ⟨j, hj, rfl, heq, hbel⟩ := hrel
      have HE := Lib.hid heq
      clear heq
      by_cases hlt : j < s.l.length
      · obtain ⟨b, o, x, hA, hx, hb, hokx, hcx⟩ := H1.out.at_ hlt
        obtain ⟨d, u, y, hD, hy, hd, hoky, hcy⟩ := H2.out.at_ (show j < t.l.length by have := HL.out; omega)
        have q0 : wr.cell? ⟨b, o + j * 2, none⟩ = some (.string x.nm) := (hbel.cell (p := ⟨b, _, none⟩) hb).trans (hcx 0 (by omega))
        have q1 : wr.cell? ⟨b, o + j * 2 + 1, none⟩ = some (.slice x.bs.A x.bs.bs.length x.bs.c) := (hbel.cell (p := ⟨b, _, none⟩) hb).trans (hcx 1 (by omega))
        have r0 : wr.cell? ⟨d, u + j * 2, none⟩ = some (.string y.nm) := (hbel.cell (p := ⟨d, _, none⟩) hd).trans (hcy 0 (by omega))
        have r1 : wr.cell? ⟨d, u + j * 2 + 1, none⟩ = some (.slice y.bs.A y.bs.bs.length y.bs.c) := (hbel.cell (p := ⟨d, _, none⟩) hd).trans (hcy 1 (by omega))
        have hbr := Nat.lt_of_lt_of_le hb hbel.size
        have hdr := Nat.lt_of_lt_of_le hd hbel.size
        have HC := Lib.hid (fun w' (h : Below w.heap.size w w') => HH.out x y w' (hokx.keep h.size (Below.kp h)) (hoky.keep h.size (Below.kp h)))
        have HNE := Lib.hid (map_take_ext kCu hx hy)
        have HSN := Lib.hid (fun h => map_take_snoc kCu hx hy h HE.out)
        have HK := Lib.hid (kCu_iff x y)
        have HB := Lib.hid hbel
        have hsz := hbel.size
        rw [hA, hD]
        clear hbel hcx hcy hx hy hokx hoky hA hD HH
        go_wp2_with (go_at_call 50; refine (HC.out _ ((HB.out.alloc hsz _).alloc (by simp; omega) _)).mono ?_; rintro e w1 ⟨⟨b1, rfl, hb1⟩, hbel⟩; have HP := Lib.hid hb1; have HB1 := Lib.hid ((((HB.out.alloc hsz _).alloc (by simp; omega) _)).trans (hbel.mono (by simp; omega))); clear hbel hb1)
        all_goals first
          | (rename_i hq; go_ret; exact Tells.mk_ _ (by simp; exact HNE.out fun e => absurd (HP.out.2 (HK.out.2 e)) (by simpa using hq)) HB1.out)
          | skip
        rename_i hq
        go_roundw
        case rel => exact ⟨j + 1, by omega, by go_num, HSN.out (HK.out.1 (HP.out.1 (by simpa using hq))), HB1.out⟩
        case measure => simp [intOf]; omega
      · have h1 := List.take_of_length_le (l := s.l) (i := j) (by omega)
        have h2 := List.take_of_length_le (l := t.l) (i := j) (by have := HL.out; omega)
        have HF := Lib.hid (show s.l.map kCu = t.l.map kCu by have := HE.out; rwa [h1, h2] at this)
        have HB := Lib.hid hbel
        clear h1 h2 hbel
        go_wp2_with fail
        go_ret
        exact Tells.mk_ _ (by simpa using HF.out) HB.out
  · have tl : ((s.l.length : Int) != (t.l.length : Int)) = true := by simp; omega
    have hne : s.l.map kCu ≠ t.l.map kCu := fun e => hl (by have := congrArg List.length e; simpa using this)
    have HNE := Lib.hid hne
    clear hne
    go_enter Tryz.func49, Tryz.ntmps49
    go_wp2_with fail
    go_ret
    exact Tells.mk_ _ (by simpa using HNE.out) (Below.refl _ _)

end Go.Proofs.YtmdgemdollfnhaaGreatDoor
