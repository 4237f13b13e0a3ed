/- Contracts of tree.owned, tree.Space, and of the reference's Space. -/
import Derived.Test.YtmdgemdollfnhaaDoorTreeN
namespace Go.Proofs.YtmdgemdollfnhaaDoor
open Go.RowKit Trx

/-- how many of a kind are the module's own. -/
def ownN (m : Mo) (kind : Int) : Nat := if kind = 0 then m.fn.l.length else if kind = 1 then m.ta.l.length else if kind = 2 then m.me.l.length else if kind = 3 then m.gl.l.length else 0
def isKd (kind : Int) : Bool := decide (0 ≤ kind) && decide (kind ≤ 3)
theorem ownN_le (m : Mo) (kind : Int) (w : World) (B : Nat) (h : m.ok w B) : ownN m kind * 24 ≤ RB := by
  have h1 := h.fn.rb
  have h2 := h.ta.rb
  have h3 := h.me.rb
  have h4 := h.gl.rb
  unfold ownN
  (repeat' split) <;> omega

set_option maxHeartbeats 4000000 in
set_option maxRecDepth 100000 in
theorem owned_any (m : Mo) (kind : Int) (w : World) :
    Calls Tryd.prog 28 #[moA m, .int .i64 kind] w fun e w' => e = .returned (.tuple #[.int .i64 (ownN m kind), .bool (isKd kind)]) ∧ Below w.heap.size w w' := by
  unfold moA
  by_cases h0 : kind = 0
  · subst h0
    go_enter Tryd.func28, Tryd.ntmps28
    go_wp2_with fail
    go_ret2
    exact ⟨rfl, (Below.refl _ _).alloc (Nat.le_refl _) _⟩
  by_cases h1 : kind = 1
  · subst h1
    go_enter Tryd.func28, Tryd.ntmps28
    go_wp2_with fail
    go_ret2
    exact ⟨rfl, (Below.refl _ _).alloc (Nat.le_refl _) _⟩
  by_cases h2 : kind = 2
  · subst h2
    go_enter Tryd.func28, Tryd.ntmps28
    go_wp2_with fail
    go_ret2
    exact ⟨rfl, (Below.refl _ _).alloc (Nat.le_refl _) _⟩
  by_cases h3 : kind = 3
  · subst h3
    go_enter Tryd.func28, Tryd.ntmps28
    go_wp2_with fail
    go_ret2
    exact ⟨rfl, (Below.refl _ _).alloc (Nat.le_refl _) _⟩
  have e1 : ownN m kind = 0 := by simp [ownN, h0, h1, h2, h3]
  have e2 : isKd kind = false := by simp [isKd]; omega
  rw [e1, e2]
  have t0 : (kind == 0) = false := by simpa using h0
  have t1 : (kind == 1) = false := by simpa using h1
  have t2 : (kind == 2) = false := by simpa using h2
  have t3 : (kind == 3) = false := by simpa using h3
  clear h0 h1 h2 h3 e1 e2
  go_enter Tryd.func28, Tryd.ntmps28
  go_wp2_with fail
  go_ret2
  exact ⟨rfl, (Below.refl _ _).alloc (Nat.le_refl _) _⟩

/-- how great a space is. -/
def spN (m : Mo) (kind : Int) : Nat := if isKd kind then (imp m kind).length + ownN m kind else 0
set_option maxHeartbeats 4000000 in
set_option maxRecDepth 100000 in
theorem Space_any (m : Mo) (kind : Int) (w : World) (hm : m.ok w w.heap.size) :
    Calls Tryd.prog 13 #[moA m, .int .i64 kind] w fun e w' => e = .returned (.int .i64 (spN m kind)) ∧ Below w.heap.size w w' := by
  have hrb := hm.im.rb
  have hle := imp_le m kind
  have hon := ownN_le m kind w _ hm
  unfold RB at hrb hon
  have HO := Lib.hid (owned_any m kind)
  have HI := Lib.hid (fun w' (h : Below w.heap.size w w') => imported_any m kind w' (hm.below h))
  unfold moA at *
  clear hm
  unfold spN
  cases hk : isKd kind
  · rw [hk] at HO
    clear hk
    go_enter Tryd.func13, Tryd.ntmps13
    go_wp2_with (go_at_call 28; refine (HO.out _).mono ?_; rintro e w1 ⟨rfl, hb1⟩; have HB := Lib.hid (bel_alloc hb1); clear hb1)
    go_ret
    exact ⟨rfl, HB.out⟩
  · rw [hk] at HO
    clear hk
    go_enter Tryd.func13, Tryd.ntmps13
    go_wp2_with (first
      | (go_at_call 28; refine (HO.out _).mono ?_; rintro e w1 ⟨rfl, hb1⟩; obtain ⟨hlt, k0, k1, k2, k3, k4, k5, k6, k7, k8, k9, k10⟩ := elevenB hb1; have HB := Lib.hid (bel_alloc hb1); clear hb1)
      | (go_at_call 29; refine (HI.out _ HB.out).mono ?_; rintro e w2 ⟨v, rfl, ho⟩; obtain ⟨A, c, hv, hc1, hc2, -⟩ := ho.form; rw [List.length_map] at hv hc1; subst hv; have HB2 := Lib.hid (HB.out.trans (ho.below.mono HB.out.size)); clear ho))
    go_ret
    exact ⟨by simp, HB2.out⟩

/-- the places of what is imported of a kind, from k on. -/
def idxF (kind : Int) : Nat → List Im → List Nat
  | _, [] => []
  | k, x :: r => if x.kd == kind then k :: idxF kind (k + 1) r else idxF kind (k + 1) r
theorem idxF_len (kind : Int) (l : List Im) (k : Nat) : (idxF kind k l).length = (l.filter fun i => i.kd == kind).length := by
  induction l generalizing k with
  | nil => rfl
  | cons x l ih => simp only [idxF, List.filter_cons]; split <;> simp [ih]
theorem idxF_snoc (kind : Int) (l : List Im) (x : Im) (k : Nat) : idxF kind k (l ++ [x]) = idxF kind k l ++ (if x.kd == kind then [k + l.length] else []) := by
  induction l generalizing k with
  | nil => simp [idxF]
  | cons y l ih =>
    simp only [List.cons_append, idxF, ih, List.length_cons]
    rw [show k + 1 + l.length = k + (l.length + 1) by omega]
    split <;> simp
theorem idxF_get (kind : Int) (l : List Im) (k f i : Nat) (h : (idxF kind k l)[f]? = some i) : k ≤ i ∧ i - k < l.length ∧ l[i - k]? = (l.filter fun i => i.kd == kind)[f]? := by
  induction l generalizing k f with
  | nil => simp [idxF] at h
  | cons x l ih =>
    simp only [idxF] at h
    by_cases hx : (x.kd == kind) = true
    · rw [if_pos hx] at h
      rw [List.filter_cons, if_pos hx]
      cases f with
      | zero =>
        simp at h
        subst h
        simp
      | succ f =>
        simp at h
        obtain ⟨h1, h2, h3⟩ := ih (k + 1) f h
        refine ⟨by omega, by simp; omega, ?_⟩
        rw [show i - k = (i - (k + 1)) + 1 by omega]
        simpa using h3
    · rw [if_neg hx] at h
      rw [List.filter_cons, if_neg hx]
      obtain ⟨h1, h2, h3⟩ := ih (k + 1) f h
      refine ⟨by omega, by simp; omega, ?_⟩
      rw [show i - k = (i - (k + 1)) + 1 by omega]
      simpa using h3
/-- a space as the reference tells it. -/
def ownL (j : Nat) : List Int := (List.range j).map fun (i : Nat) => -1 - (i : Int)
def spL (m : Mo) (kind : Int) : List Int := if isKd kind then (idxF kind 0 m.im.l).map (fun (i : Nat) => (i : Int)) ++ ownL (ownN m kind) else []
theorem ownL_succ (j : Nat) : ownL (j + 1) = ownL j ++ [-1 - (j : Int)] := by simp [ownL, List.range_succ]
theorem ownL_len (j : Nat) : (ownL j).length = j := by simp [ownL]
theorem spL_len (m : Mo) (kind : Int) : (spL m kind).length = spN m kind := by
  unfold spL spN
  split
  · simp [idxF_len, ownL_len, imp]
  · rfl
theorem ones_n64 (zs : List Int) (z : Int) : ones (n64s (zs ++ [z])) = ones (n64s zs) ++ [[.int .i64 z]] := by simp [ones, n64s]
theorem ones_n64_len (zs : List Int) : (ones (n64s zs)).length = zs.length := by simp

def SpA (m : Mo) (kind : Int) (w : World) (v i : Value) (wr : World) : Prop :=
  ∃ j : Nat, j ≤ m.im.l.length ∧ i = .int .i64 j ∧ OwnK (w.heap.size + 1) (bxM m w) wr 3 1 v (ones (n64s ((idxF kind 0 (m.im.l.take j)).map fun (i : Nat) => (i : Int))))
def SpB (m : Mo) (q n4 : Nat) (w : World) (v i : Value) (wr : World) : Prop :=
  ∃ j : Nat, j ≤ ownN m q ∧ i = .int .i64 j ∧ OwnK (w.heap.size + 1) (bxM m w) wr 3 1 v (ones (n64s ((idxF q 0 m.im.l).map (fun (i : Nat) => (i : Int)) ++ ownL j))) ∧ n4 < wr.heap.size ∧ v.ownBlock ≠ some n4 ∧ wr.cell? ⟨n4, q, none⟩ = some (.int .i64 (ownN m q))
theorem idxF_take_len (kind : Int) (l : List Im) (j : Nat) : (idxF kind 0 (l.take j)).length ≤ j := by
  rw [idxF_len]; exact filter_take_le _ _ _

set_option maxHeartbeats 16000000 in
set_option maxRecDepth 100000 in
theorem refSpace_no (m : Mo) (kind : Int) (w : World) (hk : isKd kind = false) :
    Calls Tryd.prog 14 #[moA m, .int .i64 kind] w fun e w' => ∃ v, e = .returned v ∧ OwnK w.heap.size w w' 3 1 v (ones (n64s (spL m kind))) := by
  rw [show spL m kind = [] by simp [spL, hk]]
  unfold moA
  by_cases h0 : kind < 0
  · have t0 : decide (kind < 0) = true := by simpa using h0
    clear hk h0
    go_enter Tryd.func14, Tryd.ntmps14
    go_wp2_with fail
    go_ret
    exact ⟨_, rfl, OwnK.nil_ _ _ _ _ ((Below.refl _ _).alloc (Nat.le_refl _) _) (by simp)⟩
  · have t0 : decide (kind < 0) = false := by simpa using h0
    have t1 : decide (3 < kind) = true := by simp [isKd] at hk; simp; omega
    have h3 : 3 < kind := by simpa using t1
    clear hk
    go_enter Tryd.func14, Tryd.ntmps14
    go_wp2_with fail
    go_ret
    exact ⟨_, rfl, OwnK.nil_ _ _ _ _ ((Below.refl _ _).alloc (Nat.le_refl _) _) (by simp)⟩

theorem SpA.start (m : Mo) (kind : Int) (w wr : World) (hw : wr = bxM m w) : SpA m kind w (.slice none 0 0) (.int .i64 0) wr := by
  subst hw
  refine ⟨0, by omega, rfl, ?_⟩
  simp only [List.take_zero, idxF, List.map_nil, n64s, ones]
  exact OwnK.nil_ _ _ _ _ (Below.refl _ _) (by rw [bxM_size]; exact Nat.le_refl _)
theorem own_bel {m : Mo} {w wr : World} {v : Value} {rs : List (List Value)} {e : TypeId} {k : Nat} (h : OwnK (w.heap.size + 1) (bxM m w) wr e k v rs) : BelM m w wr := by
  have := h.below
  rw [← bxM_size m w] at this
  exact this

set_option maxHeartbeats 16000000 in
set_option maxRecDepth 100000 in
theorem refSpace_yes (m : Mo) (q : Nat) (w : World) (hm : m.ok w w.heap.size) (hq : q < 4) :
    Calls Tryd.prog 14 #[moA m, .int .i64 q] w fun e w' => ∃ v, e = .returned v ∧ OwnK w.heap.size w w' 3 1 v (ones (n64s (spL m q))) := by
  have hkd : isKd (q : Int) = true := by simp [isKd]; omega
  rw [show spL m q = (idxF q 0 m.im.l).map (fun (i : Nat) => (i : Int)) ++ ownL (ownN m q) by simp [spL, hkd]]
  have hrb := hm.im.rb
  have hlc := hm.im.le
  have hmx := hm.im.c
  have hon := ownN_le m q w _ hm
  unfold RB at hrb hon
  unfold maxLen at hmx
  have HIM := Lib.hid hm.im
  have t0 : decide ((q : Int) < 0) = false := by simp
  have t1 : decide (3 < (q : Int)) = false := by simp; omega
  have t2 : ¬ (3 : Int) < (q : Int) := by omega
  unfold moA
  clear hm hkd
  go_enter Tryd.func14, Tryd.ntmps14
  go_wp2_with fail
  go_loopw [5, 6] (fun v i wr => SpA m q w v i wr) (fun _ i _ => m.im.l.length - (intOf i).toNat)
  case atStart => exact SpA.start m q w _ rfl
  case round =>
    obtain ⟨j, hj, rfl, ho⟩ := hrel
    obtain ⟨hltx, k0, k1, k2, k3, k4, k5, k6, k7, k8, k9, k10⟩ := elevenB (own_bel ho)
    by_cases hlt : j < m.im.l.length
    · obtain ⟨b, o, x, hA, hx, hb, -, hcell⟩ := HIM.out.at_ hlt
      have hbw := (own_bel ho).out
      have hcell' : ∀ i, i < 8 → wr.cell? ⟨b, o + j * 8 + i, none⟩ = x.cells[i]? := fun i hi => (hbw.cell (p := ⟨b, _, none⟩) hb).trans (hcell i hi)
      obtain ⟨-, -, q2, -, -, -, -, -⟩ := Im.eight hcell'
      have hbr := Nat.lt_of_lt_of_le hb hbw.size
      rw [hA] at k1
      have HO := Lib.hid ho
      have hfl := idxF_take_len q m.im.l j
      have hts : m.im.l.take (j + 1) = m.im.l.take j ++ [x] := by rw [List.take_add_one, hx]; rfl
      have htl : (m.im.l.take j).length = j := by rw [List.length_take]; omega
      have HS := Lib.hid (show idxF q 0 (m.im.l.take (j + 1)) = idxF q 0 (m.im.l.take j) ++ (if x.kd == (q : Int) then [j] else []) by rw [hts, idxF_snoc, htl, Nat.zero_add])
      clear ho hcell hcell' hx hts hA hbw htl
      by_cases hk : x.kd = (q : Int)
      · have tk : (x.kd == (q : Int)) = true := by simpa using hk
        have HTK := Lib.hid tk
        clear hk
        go_wp2_with (at_builtin; refine wpList_pushK rfl (.tmp 31) (.tmp 33) _ rfl 8 Tryd.underlying40 elem_int (by decide) _ _ _ rfl HO.out rfl rfl rfl (by simp; rfl) (by rw [ones_n64_len, List.length_map]; omega) (by rw [ones_n64_len, List.length_map]; unfold maxLen; omega) ?_; intro v1 w1 ho1 _ _; have HO1 := Lib.hid ho1; clear ho1)
        go_roundw
        case rel => exact ⟨j + 1, by omega, by go_num, by
          rw [HS.out, HTK.out, if_pos rfl, List.map_append, List.map_cons, List.map_nil, ones_n64]
          exact HO1.out⟩
        case measure => simp [intOf]; omega
      · have tk : (x.kd == (q : Int)) = false := by simpa using hk
        have HTK := Lib.hid tk
        clear hk
        go_wp2_with fail
        go_roundw
        case rel => exact ⟨j + 1, by omega, by go_num, by
          rw [HS.out, HTK.out]
          simpa using HO.out⟩
        case measure => simp [intOf]; omega
    · have hT := List.take_of_length_le (l := m.im.l) (i := j) (by omega)
      rw [hT] at ho
      have HO := Lib.hid ho
      have hil : (idxF (q : Int) 0 m.im.l).length ≤ m.im.l.length := by rw [idxF_len]; exact List.length_filter_le _ _
      have hsz := Nat.le_of_lt hltx
      clear ho hT
      go_wp2_with fail
      go_loopw [5, 8] (fun v i wq => SpB m q wr.heap.size w v i wq) (fun _ i _ => ownN m q - (intOf i).toNat)
      case atStart => exact ⟨0, by omega, rfl, by simpa [ownL] using HO.out.alloc _, by simp, fun e => by have := (HO.out.own_lt e).2; omega, by
        rw [World.cell?_alloc_at _ _ _ _ rfl]
        have : q = 0 ∨ q = 1 ∨ q = 2 ∨ q = 3 := by omega
        rcases this with rfl | rfl | rfl | rfl <;> rfl⟩
      case round =>
        obtain ⟨i, hi, rfl, ho, hn4, hne, hc4⟩ := hrel
        have HO2 := Lib.hid ho
        have hne' := Lib.hid hne
        clear ho hne
        by_cases hlt2 : i < ownN m q
        · have tl : decide ((i : Int) < (ownN m q : Int)) = true := by simp; omega
          go_wp2_with (at_builtin; refine wpList_pushK rfl (.tmp 56) (.tmp 59) _ rfl 8 Tryd.underlying40 elem_int (by decide) _ _ _ rfl HO2.out rfl rfl rfl (by simp; rfl) (by rw [ones_n64_len, List.length_append, List.length_map, ownL_len]; omega) (by rw [ones_n64_len, List.length_append, List.length_map, ownL_len]; unfold maxLen; omega) ?_; intro v1 w1 ho1 hk1 hs1; have HO1 := Lib.hid ho1; have HK1 := Lib.hid hk1; clear ho1 hk1)
          go_roundw
          case rel => exact ⟨i + 1, by omega, by go_num, by
            rw [ownL_succ, ← List.append_assoc, ones_n64]
            exact HO1.out, by omega, (HK1.out _ hn4 hne'.out).2, (World.cell?_of_block (HK1.out _ hn4 hne'.out).1).trans hc4⟩
          case measure => simp [intOf]; omega
        · have tl : decide ((i : Int) < (ownN m q : Int)) = false := by simp; omega
          obtain rfl : i = ownN m q := by omega
          go_wp2_with fail
          go_ret
          exact ⟨_, rfl, HO2.out.base (by omega) (bxM_below m w)⟩

theorem refSpace_any (m : Mo) (kind : Int) (w : World) (hm : m.ok w w.heap.size) :
    Calls Tryd.prog 14 #[moA m, .int .i64 kind] w fun e w' => ∃ v, e = .returned v ∧ OwnK w.heap.size w w' 3 1 v (ones (n64s (spL m kind))) := by
  cases hk : isKd kind
  · exact refSpace_no m kind w hk
  · simp [isKd] at hk
    obtain ⟨q, rfl⟩ := Int.eq_ofNat_of_zero_le hk.1
    exact refSpace_yes m q w hm (by omega)
end Go.Proofs.YtmdgemdollfnhaaDoor
