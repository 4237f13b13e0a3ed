/- Sections in memory: a slice of sections that reads as a list; how such an argument is opened; contracts of sect.follows, sect.spot, bytes.Clone and the reference's Magic. -/
import Derived.Test.YthkdpcoacjgomaaDoorSecA
import Derived.Test.YthkdpcoacjgomaaDoorSecMath
import Derived.Test.YthkdpcoacjgomaaDoorAsS
import Derived.Lib.BufferMore
set_option linter.unusedVariables false
set_option linter.unusedSimpArgs false
namespace Go.Proofs.YthkdpcoacjgomaaDoor
open Go.RowKit Go.ChangeShapes Go.WideShapes Go.Deep Trx

/-- a section with where its bytes lie. -/
structure Sc where
  id : Int
  at_ : Int
  A : Option Addr
  c : Nat
  bs : List UInt8
def Sc.cells (s : Sc) : List Value := [.int .i64 s.id, .int .i64 s.at_, .slice s.A s.bs.length s.c]
def Sc.key (s : Sc) : Int × List UInt8 := (s.id, s.bs)
theorem Sc.len3 (s : Sc) : s.cells.length = 3 := rfl
theorem Sc.one (s : Sc) : ∀ u ∈ s.cells, u.oneCell' = true := by
  intro u hu
  simp [Sc.cells] at hu
  rcases hu with rfl | rfl | rfl <;> rfl
/-- it reads so. -/
structure ScOk (w : World) (B : Nat) (s : Sc) : Prop where
  id : inI s.id
  at_ : inI s.at_
  sl : Sl w B s.A (u8s s.bs)
  c : s.bs.length ≤ s.c
  m : s.c ≤ maxLen
/-- a slice of sections reads so. -/
structure SecsAt (w : World) (B : Nat) (A : Option Addr) (l : List Sc) : Prop where
  row : RowsAt w B A 3 (l.map Sc.cells)
  all : ∀ s ∈ l, ScOk w B s
theorem elem_sec : ElemK Tryd.prog 34 3 40 := ElemK.mk_ (z := .agg #[.int .i64 0, .int .i64 0, .slice none 0 0]) (by kernel_rfl) rfl
section
variable {w w' : World} {B B' : Nat} {A : Option Addr} {l : List Sc} {s : Sc}
theorem ScOk.keep (hB : B ≤ B') (hk : ∀ b o, b < B → w'.cell? ⟨b, o, none⟩ = w.cell? ⟨b, o, none⟩) (h : ScOk w B s) : ScOk w' B' s := ⟨h.id, h.at_, (h.sl.keep hk).more hB, h.c, h.m⟩
theorem SecsAt.keep (hB : B ≤ B') (hk : ∀ b o, b < B → w'.cell? ⟨b, o, none⟩ = w.cell? ⟨b, o, none⟩) (h : SecsAt w B A l) : SecsAt w' B' A l :=
  ⟨h.row.keep hB hk, fun s hs => (h.all s hs).keep hB hk⟩
theorem SecsAt.below (h : SecsAt w B A l) (hb : Below B w w') : SecsAt w' B A l := h.keep (Nat.le_refl _) fun b o hp => hb.cell (p := ⟨b, o, none⟩) hp
theorem SecsAt.more (h : SecsAt w B A l) (hB : B ≤ B') : SecsAt w B' A l := h.keep hB fun _ _ _ => rfl
theorem SecsAt.later (h : SecsAt w w.heap.size A l) (hb : Below w.heap.size w w') : SecsAt w' w'.heap.size A l := (h.below hb).more hb.size
theorem SecsAt.nil_ : SecsAt w B A [] := ⟨RowsAt.nil_, by simp⟩
theorem SecsAt.take (h : SecsAt w B A l) (n : Nat) : SecsAt w B A (l.take n) := by
  refine ⟨fun hne => ?_, fun s hs => h.all s (List.mem_of_mem_take hs)⟩
  obtain ⟨b, o, e, hb, hc⟩ := h.row (fun e => hne (by rw [List.map_take, e]; simp))
  refine ⟨b, o, e, hb, fun i r hi => hc i r ?_⟩
  rw [List.map_take, List.getElem?_take] at hi
  split at hi
  · exact hi
  · cases hi
/-- the section at i: its three cells. -/
theorem SecsAt.at_ (h : SecsAt w B A l) {i : Nat} (hi : i < l.length) : ∃ b o, A = some ⟨b, o, none⟩ ∧ b < B ∧ w.cell? ⟨b, o + i * 3, none⟩ = some (.int .i64 l[i].id) ∧ w.cell? ⟨b, o + i * 3 + 1, none⟩ = some (.int .i64 l[i].at_) ∧
    w.cell? ⟨b, o + i * 3 + 2, none⟩ = some (.slice l[i].A l[i].bs.length l[i].c) ∧ ScOk w B l[i] := by
  obtain ⟨b, o, e, hb, hc⟩ := h.row.at_ (i := i) (r := l[i].cells) (by simp [hi])
  exact ⟨b, o, e, hb, hc 0 (by omega), hc 1 (by omega), hc 2 (by omega), h.all _ (List.getElem_mem hi)⟩
end
theorem string_of {w : World} {B : Nat} {A : Option Addr} {bs : List UInt8} (h : Sl w B A (u8s bs)) (c : Nat) : (convert 22 9 (.slice A bs.length c)).run Tryd.prog w = .ok (.string ⟨bs.toArray⟩) w :=
  run_str_of (P := Tryd.prog) 22 9 5 Tryd.underlying22 Tryd.underlying5 Tryd.underlying9 h c

section
variable {H : Type} {enc : TypeId × Value → H} {w : World} {base : Nat} {spare : Nat → Bool} {held : Bool}
theorem sec_fields : ∃ fs : Array Field, Tryd.prog.underlying 34 = some (.struct fs) ∧ oneCellFields Tryd.prog fs = true ∧ Tryd.prog.cellsOf 34 = fs.size ∧ fs.size = 3 ∧
    (fs[0]?).map (·.type) = some 3 ∧ (fs[1]?).map (·.type) = some 3 ∧ (fs[2]?).map (·.type) = some 22 :=
  ⟨_, Tryd.underlying34, by kernel_rfl, by kernel_rfl, by kernel_rfl, by kernel_rfl, by kernel_rfl, by kernel_rfl⟩
theorem open_u8 {fuel : Nat} {cs : List Value} {x : DataW H × List MemPlace} (h : DataW.trod enc Tryd.prog w base spare held fuel 22 cs = some x) :
    ∃ A bs c, cs = [.slice A (List.length bs) c] ∧ bs.length ≤ c ∧ c ≤ maxLen ∧ Sl w w.heap.size A (u8s bs) := by
  rcases open_ints Tryd.underlying22 Tryd.underlying5 (by kernel_rfl) h with ⟨hcs, _⟩ | ⟨x, l, c, zs, hcs, _, hl, hm, hz, _, hcell, hwz⟩
  · exact ⟨none, [], 0, hcs, Nat.le_refl _, Nat.zero_le _, Sl.nil_⟩
  · have hz' : l ≤ zs.length := by rw [hz]; split <;> omega
    obtain ⟨bs, hb1, hb2⟩ := bytes_of_row (len := l) hz' hcell hwz
    exact ⟨some x, bs, c, by rw [hcs, hb1], by omega, hm, hb2⟩
theorem open_sec {fuel : Nat} {cs : List Value} {x : DataW H × List MemPlace} (h : DataW.trod enc Tryd.prog w base spare held fuel 34 cs = some x) : ∃ s : Sc, cs = s.cells ∧ ScOk w w.heap.size s := by
  obtain ⟨fs, h1, h2, h3, h4, t0, t1, t2⟩ := sec_fields
  obtain ⟨n, -, hlen, hf⟩ := open_fields h1 h2 h3 h
  obtain ⟨f0, g0, e0⟩ := Option.map_eq_some_iff.1 t0
  obtain ⟨f1, g1, e1⟩ := Option.map_eq_some_iff.1 t1
  obtain ⟨f2, g2, e2⟩ := Option.map_eq_some_iff.1 t2
  obtain ⟨v0, y0, c0, r0⟩ := hf 0 f0 g0
  obtain ⟨v1, y1, c1, r1⟩ := hf 1 f1 g1
  obtain ⟨v2, y2, c2, r2⟩ := hf 2 f2 g2
  rw [e0] at r0
  rw [e1] at r1
  rw [e2] at r2
  obtain ⟨a0, d0, -, i0⟩ := DataW.trod_int (k := .i64) Tryd.underlying3 r0
  obtain ⟨a1, d1, -, i1⟩ := DataW.trod_int (k := .i64) Tryd.underlying3 r1
  simp at d0 d1
  subst d0 d1
  obtain ⟨A, bs, c, hv, hl, hm, hs⟩ := open_u8 r2
  simp at hv
  subst hv
  refine ⟨⟨a0, a1, A, c, bs⟩, ?_, inI_of i0, inI_of i1, hs, hl, hm⟩
  rw [h4] at hlen
  match cs, hlen, c0, c1, c2 with
  | [_, _, _], _, c0, c1, c2 =>
    simp at c0 c1 c2
    subst c0 c1 c2
    rfl
theorem open_secs {fuel : Nat} {cs : List Value} {x : DataW H × List MemPlace} (h : DataW.trod enc Tryd.prog w base spare held fuel 24 cs = some x) (hw : Lw Tryd.prog 24 x.1) :
    ∃ A l c, cs = [.slice A (List.length l) c] ∧ l.length ≤ c ∧ c ≤ maxLen ∧ l.length * 40 ≤ RB ∧ SecsAt w w.heap.size A l := by
  obtain ⟨A, l, c, h1, h2, h3, h4, h5, h6⟩ := open_rows Sc.cells (ScOk w w.heap.size) 3 Tryd.underlying24 (by kernel_rfl) (by omega) (fun n cs x _ hx _ => open_sec hx) Sc.len3 h hw
  rw [show Tryd.prog.bytesOf 34 = 40 by kernel_rfl] at h4
  exact ⟨A, l, c, h1, h2, h3, h4, h5, h6⟩
end

set_option maxHeartbeats 4000000 in
set_option maxRecDepth 100000 in
theorem follows_any (i hi : Int) (w : World) (h1 : inI i) (h2 : inI hi) :
    Calls Tryd.prog 18 #[.int .i64 i, .int .i64 hi] w fun e w' => e = .returned (.bool (Sect.fol i hi)) ∧ w = w' := by
  unfold inI at h1 h2
  unfold Sect.fol
  obtain ⟨p, hp⟩ : ∃ p, (i == 0) = p := ⟨_, rfl⟩
  obtain ⟨q, hq⟩ : ∃ q, decide (hi < i) = q := ⟨_, rfl⟩
  obtain ⟨r, hr⟩ : ∃ r, decide (i ≤ 11) = r := ⟨_, rfl⟩
  rw [hp, hq, hr]
  cases p <;> cases q
  all_goals
    go_enter Tryd.func18, Tryd.ntmps18
    go_wp2_with fail
    go_ret
    exact ⟨by cases r <;> rfl, rfl⟩

/-- a Spot in new memory. -/
def SpotB (B : Nat) (w : World) (v : Value) (at_ code : Int) : Prop :=
  ∃ b o, v = .iface 56 (.pointer (some ⟨b, o, none⟩)) ∧ B ≤ b ∧ w.cell? ⟨b, o, none⟩ = some (.int .i64 at_) ∧ w.cell? ⟨b, o + 1, none⟩ = some (.iface 41 (.int .i64 code))
theorem SpotB.spot {B : Nat} {w : World} {v : Value} {a k : Int} (h : SpotB B w v a k) : SpotIs w v a k := by
  obtain ⟨b, o, e, -, h1, h2⟩ := h
  exact ⟨b, o, e, h1, h2⟩
theorem SpotB.setCell {B : Nat} {w : World} {v : Value} {a k : Int} (h : SpotB B w v a k) {g : Nat} (hg : g < B) (i : Nat) (u : Value) : SpotB B (w.setCell ⟨g, i, none⟩ u) v a k := by
  obtain ⟨b, o, e, hb, h1, h2⟩ := h
  exact ⟨b, o, e, hb, (World.cell?_setCell_other _ _ _ _ (by intro e; injection e with e; omega)).trans h1, (World.cell?_setCell_other _ _ _ _ (by intro e; injection e with e; omega)).trans h2⟩

set_option maxHeartbeats 4000000 in
set_option maxRecDepth 100000 in
theorem spot_any (p k : Int) (w : World) :
    Calls Tryd.prog 17 #[.int .i64 p, .int .i64 k] w fun e w' => ∃ v, e = .returned v ∧ SpotB w.heap.size w' v p k ∧ Below w.heap.size w w' := by
  go_enter Tryd.func17, Tryd.ntmps17
  go_wp2_with fail
  go_ret
  obtain ⟨b, o, h1, h2, h3⟩ := SpotIs.new w p k 61
  injection h1 with _ h1
  injection h1 with h1
  injection h1 with h1
  injection h1 with h1 h4
  subst h1 h4
  exact ⟨_, rfl, ⟨_, _, rfl, Nat.le_refl _, h2, h3⟩, (Below.refl _ _).alloc (Nat.le_refl _) _⟩

theorem flatten_ones (vs : List Value) : (ones vs).flatten = vs := by
  induction vs with
  | nil => rfl
  | cons v vs ih => simp only [ones, List.map_cons, List.flatten_cons] at ih ⊢; rw [ih]; rfl
/-- a row of bytes that was just laid. -/
theorem OwB.lit (w : World) (bs : List UInt8) (hm : bs.length ≤ maxLen) (n : Nat) (hn : n = w.heap.size) : OwB w (w.alloc (.cells (u8s bs).toArray 5)) (.slice (some ⟨n, 0, none⟩) bs.length bs.length) bs := by
  subst hn
  refine ⟨?_, ones_len _, (Below.refl _ _).alloc (Nat.le_refl _) _, by simp⟩
  have := World.ownsRow_lit (base := w.heap.size) (e := 5) (size := 1) w (u8s bs).toArray bs.length (by simp) (by simpa using hm) (by simp)
  rw [flatten_ones]
  simpa using this

set_option maxHeartbeats 4000000 in
set_option maxRecDepth 100000 in
theorem Magic_any (w : World) :
    Calls Tryd.prog 20 #[] w fun e w' => ∃ A c, e = .returned (.slice A 8 c) ∧ OwB w w' (.slice A 8 c) Sect.magic := by
  go_enter Tryd.func20, Tryd.ntmps20
  go_wp2_with fail
  go_ret
  exact ⟨_, _, rfl, OwB.lit w Sect.magic (by decide) _ rfl⟩

set_option maxHeartbeats 4000000 in
set_option maxRecDepth 100000 in
/-- bytes.Clone: the same bytes, in memory of the call's own. -/
theorem Clone_any (A : Option Addr) (c : Nat) (bs : List UInt8) (w : World) (hs : Sl w w.heap.size A (u8s bs)) (hl : bs.length ≤ 100000000) :
    Calls Tryd.prog 29 #[.slice A bs.length c] w fun e w' => ∃ A' c', e = .returned (.slice A' bs.length c') ∧ OwB w w' (.slice A' bs.length c') bs := by
  cases A with
  | none =>
    have hb : bs = [] := by
      rcases Classical.em (bs = []) with h | h
      · exact h
      · obtain ⟨_, _, e, _⟩ := hs (fun e => h (by have := congrArg List.length e; rw [u8s_length] at this; exact List.eq_nil_of_length_eq_zero this))
        cases e
    subst hb
    have he := Lib.run_eql_slice_nil_nil (P := Tryd.prog) w 0 c Tryd.underlying22
    go_enter Tryd.func29, Tryd.ntmps29
    go_wp2_with fail
    go_ret
    exact ⟨none, 0, rfl, OwnK.nil_ _ _ _ _ (Below.refl _ _) (Nat.le_refl _)⟩
  | some a =>
    have HS := Lib.hid hs
    have he := Lib.run_eql_slice_some_nil (P := Tryd.prog) w a bs.length c Tryd.underlying22
    clear hs
    go_enter Tryd.func29, Tryd.ntmps29
    go_wp2_with (first
      | (at_builtin; refine wpl_bytes rfl (.tmp 5) (.tmp 6) rfl bs rfl (OwB.lit w [] (by decide) _ rfl) rfl (HS.out.below ((Below.refl _ _).alloc (Nat.le_refl _) _)) rfl (by simp; omega) ?_; intro v1 w2 ho2 hk2; rw [List.nil_append] at ho2; have HO2 := Lib.hid ho2; clear ho2 hk2))
    go_ret
    obtain ⟨A', c', rfl, -, -, -⟩ := OwnK.form HO2.out
    rw [ones_length, u8s_length]
    exact ⟨A', c', rfl, by simpa using HO2.out⟩
end Go.Proofs.YthkdpcoacjgomaaDoor
