/- Contracts of tree.isPlace, tree.imported, tree.copied, tree.typeNumber. -/
import Derived.Test.YtmdgemdollfnhaaGreatDoorTreeM
import Derived.Test.YtmdgemdollfnhaaGreatDoorTreeOwn
namespace Go.Proofs.YtmdgemdollfnhaaGreatDoor
open Go.RowKit Trx

/-- a module's value. -/
def moA (m : Mo) : Value := .agg #[.slice m.ty.A m.ty.l.length m.ty.c, .slice m.im.A m.im.l.length m.im.c, .slice m.fn.A m.fn.l.length m.fn.c, .slice m.ta.A m.ta.l.length m.ta.c, .slice m.me.A m.me.l.length m.me.c, .slice m.gl.A m.gl.l.length m.gl.c,
  .slice m.ex.A m.ex.l.length m.ex.c, .int .i64 m.st, .slice m.el.A m.el.l.length m.el.c, .slice m.da.A m.da.l.length m.da.c, .slice m.cu.A m.cu.l.length m.cu.c]
def isPl (i : Int) (l : Nat) : Bool := decide (0 ≤ i) && decide (i < (l : Int))

set_option maxRecDepth 100000 in
theorem isPlaceIm_any (A : Option Addr) (l c : Nat) (i : Int) (w : World) : Calls Tryz.prog 58 #[.slice A l c, .int .i64 i] w fun e w' => e = .returned (.bool (isPl i l)) ∧ w = w' := by
  unfold isPl
  cases t0 : decide (0 ≤ i)
  all_goals
    go_enter Tryz.func58, Tryz.ntmps58
    go_wp2_with fail
    go_ret
    exact ⟨by simp, rfl⟩
set_option maxRecDepth 100000 in
theorem isPlaceFn_any (A : Option Addr) (l c : Nat) (i : Int) (w : World) : Calls Tryz.prog 59 #[.slice A l c, .int .i64 i] w fun e w' => e = .returned (.bool (isPl i l)) ∧ w = w' := by
  unfold isPl
  cases t0 : decide (0 ≤ i)
  all_goals
    go_enter Tryz.func59, Tryz.ntmps59
    go_wp2_with fail
    go_ret
    exact ⟨by simp, rfl⟩
set_option maxRecDepth 100000 in
theorem isPlaceTy_any (A : Option Addr) (l c : Nat) (i : Int) (w : World) : Calls Tryz.prog 17 #[.slice A l c, .int .i64 i] w fun e w' => e = .returned (.bool (isPl i l)) ∧ w = w' := by
  unfold isPl
  cases t0 : decide (0 ≤ i)
  all_goals
    go_enter Tryz.func17, Tryz.ntmps17
    go_wp2_with fail
    go_ret
    exact ⟨by simp, rfl⟩

theorem elem_im : ElemK Tryz.prog 76 8 80 := ElemK.mk_ (z := .agg #[.string ⟨#[]⟩, .string ⟨#[]⟩, .int .i64 0, .int .i64 0, .bool false, .int .i64 0, .int .i64 0, .bool false]) (by kernel_rfl) rfl
theorem elem_int : ElemK Tryz.prog 3 1 8 := ElemK.mk_ (z := .int .i64 0) (by kernel_rfl) rfl

/-- what is imported of a kind. -/
def imp (m : Mo) (kind : Int) : List Im := m.im.l.filter fun i => i.kd == kind
theorem imp_le (m : Mo) (kind : Int) : (imp m kind).length ≤ m.im.l.length := List.length_filter_le _ _
theorem filter_take_le {α : Type} (p : α → Bool) (l : List α) (j : Nat) : ((l.take j).filter p).length ≤ j := Nat.le_trans (List.length_filter_le _ _) (List.length_take_le _ _)
theorem Im.one (i : Im) : ∀ u ∈ i.cells, u.oneCell' = true := by
  intro u hu
  simp [Im.cells] at hu
  rcases hu with rfl | rfl | rfl | rfl | rfl | rfl | rfl | rfl <;> rfl
/-- eight cells of a row. -/
theorem Im.eight {w : World} {b o : Nat} {i : Im} (h : ∀ j, j < 8 → w.cell? ⟨b, o + j, none⟩ = i.cells[j]?) :
    w.cell? ⟨b, o, none⟩ = some (.string i.md) ∧ w.cell? ⟨b, o + 1, none⟩ = some (.string i.nm) ∧ w.cell? ⟨b, o + 2, none⟩ = some (.int .i64 i.kd) ∧ w.cell? ⟨b, o + 3, none⟩ = some (.int .i64 i.ty) ∧
    w.cell? ⟨b, o + 4, none⟩ = some (.bool i.mu) ∧ w.cell? ⟨b, o + 5, none⟩ = some (.int .i64 i.lm.mn) ∧ w.cell? ⟨b, o + 6, none⟩ = some (.int .i64 i.lm.mx) ∧ w.cell? ⟨b, o + 7, none⟩ = some (.bool i.lm.hs) :=
  ⟨h 0 (by omega), h 1 (by omega), h 2 (by omega), h 3 (by omega), h 4 (by omega), h 5 (by omega), h 6 (by omega), h 7 (by omega)⟩
/-- an element of a list in memory. -/
theorem SL.ok.at_ {α : Type} {cells : α → List Value} {q : World → Nat → α → Prop} {k y : Nat} {w : World} {B : Nat} {s : SL α} (h : s.ok cells q k y w B) {j : Nat} (hj : j < s.l.length) :
    ∃ b o a, s.A = some ⟨b, o, none⟩ ∧ s.l[j]? = some a ∧ b < B ∧ q w B a ∧ ∀ i, i < k → w.cell? ⟨b, o + j * k + i, none⟩ = (cells a)[i]? := by
  obtain ⟨b, o, e, hb, hc⟩ := h.rows.at_ (i := j) (r := cells s.l[j]) (by rw [List.getElem?_map, List.getElem?_eq_getElem hj]; rfl)
  exact ⟨b, o, s.l[j], e, List.getElem?_eq_getElem hj, hb, h.all _ (List.getElem_mem hj), hc⟩

def ImpL (m : Mo) (kind : Int) (w : World) (v i : Value) (wr : World) : Prop :=
  ∃ j : Nat, j ≤ m.im.l.length ∧ i = .int .i64 j ∧ OwnK w.heap.size w wr 76 8 v (((m.im.l.take j).filter fun i => i.kd == kind).map Im.cells)

set_option maxHeartbeats 8000000 in
set_option maxRecDepth 100000 in
theorem imported_any (m : Mo) (kind : Int) (w : World) (hm : m.ok w w.heap.size) :
    Calls Tryz.prog 57 #[moA m, .int .i64 kind] w fun e w' => ∃ v, e = .returned v ∧ OwnK w.heap.size w w' 76 8 v ((imp m kind).map Im.cells) := by
  have him := hm.im
  have hrb := him.rb
  have hmx := him.c
  have hlc := him.le
  unfold RB at hrb
  unfold maxLen at hmx
  have HIM := Lib.hid him
  unfold moA
  clear him hm
  go_enter Tryz.func57, Tryz.ntmps57
  go_wp2_with fail
  go_loopw [5, 11] (fun v i wr => ImpL m kind w v i wr) (fun _ i _ => m.im.l.length - (intOf i).toNat)
  case atStart => exact ⟨0, by omega, rfl, by
    simp
    exact OwnK.nil_ _ _ _ _ ((Below.refl _ _).alloc (Nat.le_refl _) _) (by simp)⟩
  case round =>
    obtain ⟨j, hj, rfl, ho⟩ := hrel
    by_cases hlt : j < m.im.l.length
    · obtain ⟨b, o, x, hA, hx, hb, -, hcell⟩ := HIM.out.at_ hlt
      have hcell' : ∀ i, i < 8 → wr.cell? ⟨b, o + j * 8 + i, none⟩ = x.cells[i]? := fun i hi => (ho.below.cell (p := ⟨b, _, none⟩) hb).trans (hcell i hi)
      obtain ⟨q0, q1, q2, q3, q4, q5, q6, q7⟩ := Im.eight hcell'
      have hbw := Nat.lt_of_lt_of_le hb ho.below.size
      have HA := Lib.hid hA
      have HO := Lib.hid ho
      have hts : m.im.l.take (j + 1) = m.im.l.take j ++ [x] := by rw [List.take_add_one, hx]; rfl
      have hfl := filter_take_le (fun i : Im => i.kd == kind) m.im.l j
      have HTS := Lib.hid hts
      clear ho hcell hcell' hx hts
      by_cases hk : x.kd = kind
      · subst hk
        have tk : (x.kd == x.kd) = true := by simp
        rw [hA]
        go_wp2_with (at_builtin; refine wpList_pushK rfl (.tmp 19) (.tmp 21) _ rfl 80 Tryz.underlying23 elem_im (by decide) _ _ _ rfl (HO.out.alloc _) rfl (by simp) rfl (Im.one x) (by simp only [List.length_map]; omega) (by simp only [List.length_map]; unfold maxLen; omega) ?_; intro v1 w1 ho1 _ _; have HO1 := Lib.hid ho1; clear ho1)
        go_roundw
        case rel => exact ⟨j + 1, by omega, by go_num, by
          rw [HTS.out, List.filter_append]
          simpa [Im.cells] using HO1.out⟩
        case measure => simp [intOf]; omega
      · have tk : (x.kd == kind) = false := by simpa using hk
        rw [hA]
        go_wp2_with fail
        go_roundw
        case rel => exact ⟨j + 1, by omega, by go_num, by
          rw [HTS.out, List.filter_append]
          simp [tk]
          exact HO.out.alloc _⟩
        case measure => simp [intOf]; omega
    · have HT := Lib.hid (List.take_of_length_le (l := m.im.l) (i := j) (by omega))
      have HO := Lib.hid ho
      clear ho
      go_wp2_with fail
      go_ret
      exact ⟨_, rfl, by have := HO.out; rw [HT.out] at this; exact this⟩

set_option maxHeartbeats 8000000 in
set_option maxRecDepth 100000 in
theorem copied_any (l : IL) (w : World) (hl : l.ok w w.heap.size) :
    Calls Tryz.prog 18 #[.slice l.A l.zs.length l.c] w fun e w' => ∃ v, e = .returned v ∧ OwnK w.heap.size w w' 3 1 v (ones (n64s l.zs)) := by
  have hrb := hl.rb
  unfold RB at hrb
  have HL := Lib.hid hl
  have h1 : ∀ r ∈ ones (n64s l.zs), ∀ u ∈ r, u.oneCell' = true := by
    intro r hr u hu
    obtain ⟨v, hv, rfl⟩ := List.mem_map.1 hr
    simp at hu
    subst hu
    obtain ⟨z, _, rfl⟩ := List.mem_map.1 hv
    rfl
  have H1 := Lib.hid h1
  clear hl h1
  go_enter Tryz.func18, Tryz.ntmps18
  go_wp2_with (at_builtin; refine wpList_catK rfl _ (.tmp 3) _ rfl 8 Tryz.underlying36 elem_int (by decide) rfl (OwnK.nil_ w w 3 1 (Below.refl _ _) (Nat.le_refl _)) rfl HL.out.sl.ones (ones_len _) (by simp) H1.out (by simp; omega) (by simp; unfold maxLen; omega) ?_; intro v1 w1 ho1 _ _; have HO1 := Lib.hid ho1; clear ho1)
  go_ret
  exact ⟨_, rfl, by simpa using HO1.out⟩

/-- a new block of eleven cells, behind a call that changes nothing older. -/
theorem elevenB {w0 w : World} {a0 a1 a2 a3 a4 a5 a6 a7 a8 a9 a10 : Value} {t : TypeId} (h : Below (w0.alloc (.cells #[a0, a1, a2, a3, a4, a5, a6, a7, a8, a9, a10] t)).heap.size (w0.alloc (.cells #[a0, a1, a2, a3, a4, a5, a6, a7, a8, a9, a10] t)) w) :
    (w0.heap.size < w.heap.size) ∧ (w.cell? ⟨w0.heap.size, 0, none⟩ = some a0) ∧ (w.cell? ⟨w0.heap.size, 1, none⟩ = some a1) ∧ (w.cell? ⟨w0.heap.size, 2, none⟩ = some a2) ∧ (w.cell? ⟨w0.heap.size, 3, none⟩ = some a3) ∧
    (w.cell? ⟨w0.heap.size, 4, none⟩ = some a4) ∧ (w.cell? ⟨w0.heap.size, 5, none⟩ = some a5) ∧ (w.cell? ⟨w0.heap.size, 6, none⟩ = some a6) ∧ (w.cell? ⟨w0.heap.size, 7, none⟩ = some a7) ∧ (w.cell? ⟨w0.heap.size, 8, none⟩ = some a8) ∧ (w.cell? ⟨w0.heap.size, 9, none⟩ = some a9) ∧ (w.cell? ⟨w0.heap.size, 10, none⟩ = some a10) := by
  have hc : ∀ i, w.cell? ⟨w0.heap.size, i, none⟩ = (#[a0, a1, a2, a3, a4, a5, a6, a7, a8, a9, a10] : Array Value)[i]? := fun i => (h.cell (p := ⟨w0.heap.size, i, none⟩) (by simp)).trans (World.cell?_alloc_at _ _ _ _ rfl)
  exact ⟨by have := h.size; simp at this; omega, hc 0, hc 1, hc 2, hc 3, hc 4, hc 5, hc 6, hc 7, hc 8, hc 9, hc 10⟩
/-- a new block of eleven cells and one of two behind it. -/
theorem elevenC {w0 w : World} {a0 a1 a2 a3 a4 a5 a6 a7 a8 a9 a10 c0 c1 : Value} {t u : TypeId}
    (h : Below ((w0.alloc (.cells #[a0, a1, a2, a3, a4, a5, a6, a7, a8, a9, a10] t)).alloc (.cells #[c0, c1] u)).heap.size ((w0.alloc (.cells #[a0, a1, a2, a3, a4, a5, a6, a7, a8, a9, a10] t)).alloc (.cells #[c0, c1] u)) w) :
    (w0.heap.size + 1 < w.heap.size) ∧ (w.cell? ⟨w0.heap.size, 0, none⟩ = some a0) ∧ (w.cell? ⟨w0.heap.size + 1, 0, none⟩ = some c0) ∧ (w.cell? ⟨w0.heap.size + 1, 1, none⟩ = some c1) ∧
    (∀ i, w.frozen? ⟨w0.heap.size + 1, i, none⟩ = false) ∧ Below w0.heap.size w0 w := by
  have hc : ∀ i, w.cell? ⟨w0.heap.size + 1, i, none⟩ = (#[c0, c1] : Array Value)[i]? := fun i => by
    have := (h.cell (p := ⟨w0.heap.size + 1, i, none⟩) (by simp)).trans (World.cell?_alloc_at _ _ _ _ (by simp))
    exact this
  have hf : ∀ i, w.frozen? ⟨w0.heap.size + 1, i, none⟩ = false := fun i => (h.frozen (p := ⟨w0.heap.size + 1, i, none⟩) (by simp)).trans (World.frozen?_alloc_at _ _ _ _ (by simp))
  have h0 : w.cell? ⟨w0.heap.size, 0, none⟩ = some a0 := by
    rw [h.cell (p := ⟨w0.heap.size, 0, none⟩) (by simp; omega), World.cell?_alloc_past _ _ _ (by simp), World.cell?_alloc_at _ _ _ _ rfl]
    rfl
  exact ⟨by have := h.size; simp at this; omega, h0, hc 0, hc 1, hf, (((Below.refl _ _).alloc (Nat.le_refl _) _).alloc (by simp) _).trans (h.mono (by simp; omega))⟩
/-- a function's type's number, if there is such a function. -/
def tnV (m : Mo) (f : Int) : Option Int :=
  if 0 ≤ f ∧ f < ((imp m 0).length : Int) then (imp m 0)[f.toNat]?.map (·.ty) else if ((imp m 0).length : Int) ≤ f ∧ f < ((imp m 0).length : Int) + (m.fn.l.length : Int) then m.fn.l[f.toNat - (imp m 0).length]?.map (·.ty) else none

set_option maxHeartbeats 8000000 in
set_option maxRecDepth 100000 in
theorem typeNumber_any (m : Mo) (f : Int) (w : World) (hm : m.ok w w.heap.size) (hf : inI f) :
    Calls Tryz.prog 16 #[moA m, .int .i64 f] w fun e w' => e = .returned (.tuple #[.int .i64 ((tnV m f).getD 0), .bool (tnV m f).isSome]) ∧ Below w.heap.size w w' := by
  have hrbi := hm.im.rb
  have hrbf := hm.fn.rb
  have hcf := hm.fn.c
  have hle := imp_le m 0
  unfold RB at hrbi hrbf
  unfold inI at hf
  unfold maxLen at hcf
  have HI := Lib.hid (fun w' (h : Below w.heap.size w w') => imported_any m 0 w' (hm.below h))
  have HP := Lib.hid isPlaceIm_any
  have HQ := Lib.hid isPlaceFn_any
  have HM := Lib.hid hm
  clear hm
  unfold moA at *
  by_cases h1 : 0 ≤ f ∧ f < ((imp m 0).length : Int)
  · obtain ⟨j, rfl⟩ := Int.eq_ofNat_of_zero_le h1.1
    have hj : j < (imp m 0).length := by omega
    have hx : (imp m 0)[j]? = some (imp m 0)[j] := List.getElem?_eq_getElem hj
    obtain ⟨x, hxx⟩ : ∃ x, x = (imp m 0)[j] := ⟨_, rfl⟩
    rw [← hxx] at hx
    rw [show tnV m j = some x.ty by unfold tnV; rw [if_pos h1, Int.toNat_natCast, hx]; rfl]
    have tp : isPl (j : Int) (imp m 0).length = true := by simp [isPl]; omega
    have HX := Lib.hid (show ((imp m 0).map Im.cells)[j]? = some x.cells by rw [List.getElem?_map, hx]; rfl)
    clear hxx hx h1
    go_enter Tryz.func16, Tryz.ntmps16
    go_wp2_with (first
      | (go_at_call 57; refine (HI.out _ ((Below.refl _ _).alloc (Nat.le_refl _) _)).mono ?_; rintro e w1 ⟨v, rfl, ho⟩; obtain ⟨A, c, hv, hc1, hc2, hrows⟩ := ho.form; rw [List.length_map] at hv hc1; subst hv; obtain ⟨b, o, rfl, hb, hcell⟩ := hrows.at_ HX.out; obtain ⟨-, -, -, q3, -, -, -, -⟩ := Im.eight hcell; have HB := Lib.hid ho.below; clear ho hrows hcell)
      | (go_at_call 58; refine (HP.out _ _ _ _ _).mono ?_; rw [tp]; rintro e w2 ⟨rfl, rfl⟩))
    go_ret2
    exact ⟨rfl, bel_alloc HB.out⟩
  have tp : isPl f (imp m 0).length = false := by simp [isPl]; omega
  by_cases h2 : ((imp m 0).length : Int) ≤ f ∧ f < ((imp m 0).length : Int) + (m.fn.l.length : Int)
  · obtain ⟨j, hj⟩ : ∃ j : Nat, f = ((imp m 0).length : Int) + j := ⟨(f - (imp m 0).length).toNat, by omega⟩
    subst hj
    have hj : j < m.fn.l.length := by omega
    have hx : m.fn.l[j]? = some m.fn.l[j] := List.getElem?_eq_getElem hj
    obtain ⟨x, hxx⟩ : ∃ x, x = m.fn.l[j] := ⟨_, rfl⟩
    rw [← hxx] at hx
    rw [show tnV m (((imp m 0).length : Int) + j) = some x.ty by unfold tnV; rw [if_neg h1, if_pos h2, show (((imp m 0).length : Int) + (j : Int)).toNat - (imp m 0).length = j by omega, hx]; rfl]
    have tq : isPl (j : Int) m.fn.l.length = true := by simp [isPl]; omega
    have hjj : ((imp m 0).length : Int) + (j : Int) - ((imp m 0).length : Int) = (j : Int) := by omega
    obtain ⟨b, o, x', hA, hx', hb, -, hcell⟩ := HM.out.fn.at_ hj
    obtain rfl : x' = x := Option.some.inj (hx'.symm.trans hx)
    have q0 := hcell 0 (by omega)
    simp only [Fn.cells, Nat.add_zero, List.getElem?_cons_zero] at q0
    have hq := Lib.hid q0
    clear hxx hx h1 h2 hx' hcell q0
    rw [hA]
    rw [hA] at HI
    go_enter Tryz.func16, Tryz.ntmps16
    go_wp2_with (first
      | (go_at_call 57; refine (HI.out _ ((Below.refl _ _).alloc (Nat.le_refl _) _)).mono ?_; rintro e w1 ⟨v, rfl, ho⟩; obtain ⟨A, c, hv, hc1, hc2, -⟩ := ho.form; rw [List.length_map] at hv hc1; subst hv; have HB := Lib.hid ho.below; obtain ⟨hlt, -, -, k2, -⟩ := elevenB HB.out; have q0 := ((bel_alloc HB.out).cell (p := ⟨b, o + j * 3, none⟩) hb).trans hq.out; have hb' := Nat.lt_trans hb hlt; clear ho)
      | (go_at_call 58; refine (HP.out _ _ _ _ _).mono ?_; rw [tp]; rintro e w2 ⟨rfl, rfl⟩)
      | (go_at_call 59; refine (HQ.out _ _ _ _ _).mono ?_; rw [tq]; rintro e w2 ⟨rfl, rfl⟩))
    go_ret2
    exact ⟨rfl, bel_alloc HB.out⟩
  · rw [show tnV m f = none by unfold tnV; rw [if_neg h1, if_neg h2]]
    by_cases hneg : f < 0
    · have tq : isPl (wrap64 (f - ((imp m 0).length : Int))) m.fn.l.length = false := by simp [isPl]; unfold wrap64; omega
      go_enter Tryz.func16, Tryz.ntmps16
      go_wp2_with (first
        | (go_at_call 57; refine (HI.out _ ((Below.refl _ _).alloc (Nat.le_refl _) _)).mono ?_; rintro e w1 ⟨v, rfl, ho⟩; obtain ⟨A, c, hv, hc1, hc2, -⟩ := ho.form; rw [List.length_map] at hv hc1; subst hv; have HB := Lib.hid ho.below; obtain ⟨hlt, -, -, k2, -⟩ := elevenB HB.out; clear ho)
        | (go_at_call 58; refine (HP.out _ _ _ _ _).mono ?_; rw [tp]; rintro e w2 ⟨rfl, rfl⟩)
        | (go_at_call 59; refine (HQ.out _ _ _ _ _).mono ?_; rw [tq]; rintro e w2 ⟨rfl, rfl⟩))
      go_ret2
      exact ⟨rfl, bel_alloc HB.out⟩
    · have tq : isPl (f - ((imp m 0).length : Int)) m.fn.l.length = false := by simp [isPl]; omega
      go_enter Tryz.func16, Tryz.ntmps16
      go_wp2_with (first
        | (go_at_call 57; refine (HI.out _ ((Below.refl _ _).alloc (Nat.le_refl _) _)).mono ?_; rintro e w1 ⟨v, rfl, ho⟩; obtain ⟨A, c, hv, hc1, hc2, -⟩ := ho.form; rw [List.length_map] at hv hc1; subst hv; have HB := Lib.hid ho.below; obtain ⟨hlt, -, -, k2, -⟩ := elevenB HB.out; clear ho)
        | (go_at_call 58; refine (HP.out _ _ _ _ _).mono ?_; rw [tp]; rintro e w2 ⟨rfl, rfl⟩)
        | (go_at_call 59; refine (HQ.out _ _ _ _ _).mono ?_; rw [tq]; rintro e w2 ⟨rfl, rfl⟩))
      go_ret2
      exact ⟨rfl, bel_alloc HB.out⟩

/-- a function's type's place among the types. -/
def ftV (m : Mo) (f : Int) : Option Nat :=
  match tnV m f with
  | some t => if 0 ≤ t ∧ t < (m.ty.l.length : Int) then some t.toNat else none
  | none => none
theorem tnV_none {m : Mo} {f : Int} (h : tnV m f = none) : ftV m f = none := by simp [ftV, h]

set_option maxHeartbeats 8000000 in
set_option maxRecDepth 100000 in
theorem FuncType_none (m : Mo) (f : Int) (w : World) (hm : m.ok w w.heap.size) (hf : inI f) (hn : ftV m f = none) :
    Calls Tryz.prog 7 #[moA m, .int .i64 f] w fun e w' => e = .returned (.tuple #[.agg #[.slice none 0 0, .slice none 0 0], .iface 68 (.int .i64 5)]) ∧ Below w.heap.size w w' := by
  have HT := Lib.hid (fun w' (h : Below w.heap.size w w') => typeNumber_any m f w' (hm.below h) hf)
  have HQ := Lib.hid isPlaceTy_any
  clear hm hf
  unfold moA at *
  cases ht : tnV m f with
  | none =>
    rw [ht] at HT
    simp only [Option.getD_none, Option.isSome_none] at HT
    clear hn ht
    go_enter Tryz.func7, Tryz.ntmps7
    go_wp2_with (go_at_call 16; refine (HT.out _ (((Below.refl _ _).alloc (Nat.le_refl _) _).alloc (by simp) _)).mono ?_; rintro e w1 ⟨rfl, hb1⟩; obtain ⟨hlt, b0, c0, c1, fr, hw⟩ := elevenC hb1; have HB := Lib.hid hw; clear hb1 hw)
    refine bodyPost_ret (v := .tuple #[.agg #[.slice none 0 0, .slice none 0 0], .iface 68 (.int .i64 5)]) (by simp [results, Tryz.results7, go_sem, c0, c1, hlt]) rfl ⟨rfl, ?_⟩
    repeat' (first | exact HB.out | refine Below.setCell ?_ ?_ _)
    all_goals (simp <;> omega)
  | some t =>
    rw [ht] at HT
    simp only [Option.getD_some, Option.isSome_some] at HT
    have tq : isPl t m.ty.l.length = false := by
      unfold ftV at hn
      rw [ht] at hn
      simp only at hn
      split at hn
      · cases hn
      · simp [isPl]; omega
    clear hn ht
    go_enter Tryz.func7, Tryz.ntmps7
    go_wp2_with (first
      | (go_at_call 16; refine (HT.out _ (((Below.refl _ _).alloc (Nat.le_refl _) _).alloc (by simp) _)).mono ?_; rintro e w1 ⟨rfl, hb1⟩; obtain ⟨hlt, b0, c0, c1, fr, hw⟩ := elevenC hb1; have HB := Lib.hid hw; clear hb1 hw)
      | (go_at_call 17; refine (HQ.out _ _ _ _ _).mono ?_; rw [tq]; rintro e w2 ⟨rfl, rfl⟩))
    refine bodyPost_ret (v := .tuple #[.agg #[.slice none 0 0, .slice none 0 0], .iface 68 (.int .i64 5)]) (by simp [results, Tryz.results7, go_sem, c0, c1, hlt]) rfl ⟨rfl, ?_⟩
    repeat' (first | exact HB.out | refine Below.setCell ?_ ?_ _)
    all_goals (simp <;> omega)
end Go.Proofs.YtmdgemdollfnhaaGreatDoor
