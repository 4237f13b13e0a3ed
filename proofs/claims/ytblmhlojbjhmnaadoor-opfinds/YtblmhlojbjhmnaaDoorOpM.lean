/- Contract of the reference's kind, ends, Made: of a row whose letters are at most two, a colon, at most one. -/
import Derived.Test.YtblmhlojbjhmnaaDoorOpL
import Derived.Test.YtblmhlojbjhmnaaDoorOpI
import Derived.Test.YtblmhlojbjhmnaaDoorRegion
namespace Go.Proofs.YtblmhlojbjhmnaaDoor
open Go.RowKit

theorem kind_any (c : Int) (w : World) :
    Calls Tryd.prog 20 #[.int .u8 c] w fun e w' => e = .returned (.int .i64 (if c = 52 then 1 else 2)) ∧ w = w' := by
  by_cases h : c = 52
  · subst h
    go_enter Tryd.func20, Tryd.ntmps20
    go_wp2
    go_ret
    exact ⟨rfl, rfl⟩
  · have t : (c == 52) = false := by simpa using h
    rw [if_neg h]
    clear h
    go_enter Tryd.func20, Tryd.ntmps20
    go_wp2
    go_ret
    exact ⟨rfl, rfl⟩

set_option maxHeartbeats 4000000 in
set_option maxRecDepth 100000 in
theorem ends_any (s p : ByteArray) (w : World) (hs : s.size ≤ 9223372036854775807) (hp : p.size ≤ 9223372036854775807) :
    Calls Tryd.prog 21 #[.string s, .string p] w fun e w' => e = .returned (.bool (Lib.hasSuffix s.data.toList p.data.toList)) ∧ w = w' := by
  by_cases h : p.size ≤ s.size
  · have t : decide ((p.size : Int) ≤ s.size) = true := by simpa using h
    go_enter Tryd.func21, Tryd.ntmps21
    go_wp2
    go_ret
    exact ⟨ret_bool (by rw [← Lib.hasSuffix_raw]; simp [h]), rfl⟩
  · have t : decide ((p.size : Int) ≤ s.size) = false := by simpa using h
    go_enter Tryd.func21, Tryd.ntmps21
    go_wp2
    go_ret
    exact ⟨ret_bool (by rw [← Lib.hasSuffix_raw]; simp [h]), rfl⟩

/-- 'append(v, u)', v a row of the call's own, as one operation. -/
theorem wp_push {P : Program} {o : Oper} {a : Act} {K : Act → World → Prop} {Q : Exit → Act → World → Prop} (s x : Operand) (t : TypeId)
    (ho : o.op = .call { callee := .builtin .append, args := #[s, x], argTypes := #[t, t] }) (e : TypeId) (bytes : Nat) (ht : P.underlying t = some (.slice e)) (hE : Elem P e bytes) (h64 : bytes ≤ 64)
    (B : Nat) (w0 w : World) (v : Value) (xs : List Value) (u : Value) (c : Nat) (hs : a.eval s = v) (h : Own B w0 w e v xs) (hx : a.eval x = .slice (some ⟨w.heap.size, 0, none⟩) 1 c)
    (hu : u.oneCell' = true) (hlen : xs.length < 1000000000000)
    (k : ∀ v' w', Own B w0 w' e v' (xs ++ [u]) → K (a.put o.dst v') w') : o.wp P a (w.alloc (.cells #[u] e)) K Q := by
  obtain ⟨i, z, hi, hz, h1, hby, hzs⟩ := hE
  refine wp_append_own _ s x t ho B e i z 1 bytes ht hi hz h1 hby hzs (by decide) v xs.length xs hs (h.row.alloc _) ⟨w.heap.size, 0, none⟩ 1 c [u] hx rfl ?_ ?_ ?_ ?_ ?_ ?_
  · exact cell_one_new _ _ _
  · intro q hq
    simp at hq
    subst hq
    exact hu
  · simp only [maxLen]; omega
  · have : (xs.length + 1) * bytes ≤ (xs.length + 1) * 64 := Nat.mul_le_mul_left _ h64
    omega
  · have := h.le; simp; omega
  · intro v' w' hown hg _
    refine k v' w' ⟨by simpa using hown, ?_, ?_⟩
    · refine (h.below.alloc h.le _).grown hg (by have := h.le; simp; omega) (fun g hg' => ?_)
      exact (h.row.lt g hg').1
    · have := hg.size; have := h.le; simp at *; omega

theorem wanted_yes {c : Prop} [Decidable c] {A B : Prop} (h : c) (k : A) : if c then A else B := by rw [if_pos h]; exact k

/-- the memory of Made behind some letters: the row handed in (boxed), the result's cell, the operation so far, and what it takes so far. -/
structure Mst (w wr : World) (b k y : Int) (n ts : ByteArray) (v : Value) (zs : List Int) (g : Int) : Prop where
  row : wr.ownsRow (w.heap.size + 3) 3 1 v zs.length (i64s zs)
  below : Below w.heap.size w wr
  le : w.heap.size + 3 ≤ wr.heap.size
  box : ∀ i : Nat, wr.cell? ⟨w.heap.size, i, none⟩ = (#[.int .i64 b, .string n, .int .i64 k, .string ts, .int .i64 y] : Array Value)[i]?
  res : ∀ i : Nat, wr.cell? ⟨w.heap.size + 1, i, none⟩ = (#[.int .i64 0, .string ⟨#[]⟩, .int .i64 0, .slice none 0 0, .int .i64 0, .int .i64 0, .bool false] : Array Value)[i]?
  resf : ∀ i : Nat, wr.frozen? ⟨w.heap.size + 1, i, none⟩ = false
  op : ∀ i : Nat, wr.cell? ⟨w.heap.size + 2, i, none⟩ = (#[.int .i64 b, .string n, .int .i64 k, v, .int .i64 g, .int .i64 y, .bool false] : Array Value)[i]?
  opf : ∀ i : Nat, wr.frozen? ⟨w.heap.size + 2, i, none⟩ = false

section
variable {w wr : World} {b k y : Int} {n ts : ByteArray} {v : Value} {zs : List Int} {g : Int}
theorem Mst.start (w : World) (b k y : Int) (n ts : ByteArray) :
    Mst w (((w.alloc (.cells #[.int .i64 b, .string n, .int .i64 k, .string ts, .int .i64 y] 36)).alloc (.cells #[.int .i64 0, .string ⟨#[]⟩, .int .i64 0, .slice none 0 0, .int .i64 0, .int .i64 0, .bool false] 25)).alloc (.cells #[.int .i64 b, .string n, .int .i64 k, .slice none 0 0, .int .i64 0, .int .i64 y, .bool false] 25)) b k y n ts (.slice none 0 0) [] 0 := by
  refine ⟨World.ownsRow_nil _ _ _ _, (((Below.refl _ _).alloc (Nat.le_refl _) _).alloc (by simp) _).alloc (by simp; omega) _, by simp, fun i => ?_, fun i => ?_, fun i => ?_, fun i => ?_, fun i => ?_⟩
  · rw [World.cell?_alloc_past _ _ _ (by simp; omega), World.cell?_alloc_past _ _ _ (by simp), World.cell?_alloc_at _ _ _ _ rfl]
  · rw [World.cell?_alloc_past _ _ _ (by simp), World.cell?_alloc_at _ _ _ _ (by simp)]
  · rw [World.frozen?_alloc_past _ _ _ (by simp), World.frozen?_alloc_at _ _ _ _ (by simp)]
  · rw [World.cell?_alloc_at _ _ _ _ (by simp)]
  · rw [World.frozen?_alloc_at _ _ _ _ (by simp)]
/-- a store into the operation's field 4. -/
theorem Mst.gives (h : Mst w wr b k y n ts v zs g) (u : Int) : Mst w (wr.setCell ⟨w.heap.size + 2, 4, none⟩ (.int .i64 u)) b k y n ts v zs u := by
  have hle := h.le
  refine ⟨row_other (n := w.heap.size + 2) h.row fun q h1 _ => Below.heap_setCell _ _ _ _ (by simp; omega), h.below.setCell (by simp) _, by simp [World.setCell]; omega, fun i => ?_, fun i => ?_, fun i => ?_, fun i => ?_, fun i => ?_⟩
  · rw [World.cell?_setCell_other _ _ _ _ (by simp)]; exact h.box i
  · rw [World.cell?_setCell_other _ _ _ _ (by simp)]; exact h.res i
  · rw [World.frozen?_setCell]; exact h.resf i
  · by_cases hi : i = 4
    · subst hi
      rw [World.cell?_setCell_same _ _ _ (by rw [h.op 4]; rfl)]
      rfl
    · rw [World.cell?_setCell_other _ _ _ _ (by simp <;> omega), h.op i]
      match i, hi with
      | 0, _ | 1, _ | 2, _ | 3, _ | 5, _ | 6, _ => rfl
      | i + 7, _ => rfl
  · rw [World.frozen?_setCell]; exact h.opf i
theorem Mst.own (h : Mst w wr b k y n ts v zs g) : Own (w.heap.size + 3) wr wr 3 v (i64s zs) := ⟨by simpa using h.row, Below.refl _ _, h.le⟩
theorem Mst.drewN (h : Mst w wr b k y n ts v zs g) (q : Nat) : Mst w (wr.drewN q) b k y n ts v zs g := ⟨h.row, ⟨h.below.os, h.below.tape, h.below.output, h.below.size, h.below.block⟩, h.le, h.box, h.res, h.resf, h.op, h.opf⟩
/-- one more that it takes, appended and stored into the operation's field 3. -/
theorem Mst.push {w' : World} {v' : Value} {u : Int} (h : Mst w wr b k y n ts v zs g) (ho : Own (w.heap.size + 3) wr w' 3 v' (i64s zs ++ [.int .i64 u])) :
    Mst w (w'.setCell ⟨w.heap.size + 2, 3, none⟩ v') b k y n ts v' (zs ++ [u]) g := by
  have hle := ho.le
  have hb := ho.below
  have e : i64s zs ++ [.int .i64 u] = i64s (zs ++ [u]) := by simp [i64s]
  have hr := ho.row
  rw [e] at hr
  have hc : ∀ q i, q < w.heap.size + 3 → w'.cell? ⟨q, i, none⟩ = wr.cell? ⟨q, i, none⟩ := fun q i hq => hb.cell (p := ⟨q, i, none⟩) hq
  have hf : ∀ q i, q < w.heap.size + 3 → w'.frozen? ⟨q, i, none⟩ = wr.frozen? ⟨q, i, none⟩ := fun q i hq => hb.frozen (p := ⟨q, i, none⟩) hq
  refine ⟨by simpa using row_other (n := w.heap.size + 2) hr fun q h1 _ => Below.heap_setCell _ _ _ _ (by simp; omega), (h.below.trans (hb.mono (by omega))).setCell (by simp) _, by simp [World.setCell]; omega, fun i => ?_, fun i => ?_, fun i => ?_, fun i => ?_, fun i => ?_⟩
  · rw [World.cell?_setCell_other _ _ _ _ (by simp), hc _ _ (by omega)]; exact h.box i
  · rw [World.cell?_setCell_other _ _ _ _ (by simp), hc _ _ (by omega)]; exact h.res i
  · rw [World.frozen?_setCell, hf _ _ (by omega)]; exact h.resf i
  · by_cases hi : i = 3
    · subst hi
      rw [World.cell?_setCell_same _ _ _ (by rw [hc _ _ (by omega), h.op 3]; rfl)]
      rfl
    · rw [World.cell?_setCell_other _ _ _ _ (by simp <;> omega), hc _ _ (by omega), h.op i]
      match i, hi with
      | 0, _ | 1, _ | 2, _ | 4, _ | 5, _ | 6, _ => rfl
      | i + 7, _ => rfl
  · rw [World.frozen?_setCell, hf _ _ (by omega)]; exact h.opf i
end

/-- what is left of it in the end. -/
structure Kp3 (w wr : World) (v : Value) (xs : List Value) : Prop where
  row : wr.ownsRow (w.heap.size + 3) 3 1 v xs.length xs
  below : Below w.heap.size w wr
  le : w.heap.size + 3 ≤ wr.heap.size
theorem Kp3.setCell {w wr : World} {v : Value} {xs : List Value} (h : Kp3 w wr v xs) (q i : Nat) (u : Value) (hq : w.heap.size ≤ q ∧ q < w.heap.size + 3) : Kp3 w (wr.setCell ⟨q, i, none⟩ u) v xs :=
  ⟨by simpa using row_other (n := w.heap.size + 2) h.row fun g h1 _ => Below.heap_setCell _ _ _ _ (by simp; omega), h.below.setCell hq.1 u, by have := h.le; simpa [World.setCell] using this⟩
theorem Kp3.own {w wr : World} {v : Value} {xs : List Value} (h : Kp3 w wr v xs) : Own w.heap.size w wr 3 v xs := by
  refine ⟨⟨h.row.1, ?_⟩, h.below, by have := h.le; omega⟩
  rcases h.row.2 with hx | ⟨g, cap, cur, h1, h2, h3⟩
  · exact .inl hx
  · exact .inr ⟨g, cap, cur, h1, by omega, h3⟩

theorem letter_int (d : UInt8) (c : Int) (hc : c = (d.toNat : Int)) : (if c = 52 then (1 : Int) else 2) = Opx.letter d := by
  subst hc
  unfold Opx.letter
  by_cases h : d = 52
  · subst h; rfl
  · rw [if_neg h, if_neg]
    intro h2
    exact h (UInt8.toNat_inj.1 (by have : (52 : UInt8).toNat = 52 := rfl; omega))

def InvM (w : World) (b k y : Int) (n ts : ByteArray) (a gs : List UInt8) (gvn i : Value) (wr : World) : Prop :=
  ∃ j : Nat, i = .int .i64 j ∧ ((j ≤ a.length ∧ gvn = .bool false ∧ ∃ v, Mst w wr b k y n ts v ((a.take j).map Opx.letter) 0) ∨ (j = a.length + 1 ∧ gvn = .bool true ∧ ∃ v, Mst w wr b k y n ts v (a.map Opx.letter) 0) ∨
    (∃ d, gs = [d] ∧ j = a.length + 2 ∧ gvn = .bool true ∧ ∃ v, Mst w wr b k y n ts v (a.map Opx.letter) (Opx.letter d)))

set_option maxHeartbeats 8000000 in
set_option maxRecDepth 100000 in
theorem Made_core (b k y : Int) (n ts : ByteArray) (a gs : List UInt8) (w : World) (hts : ts.size = a.length + 1 + gs.length) (ha : ∀ c ∈ a, c ≠ 58) (hg : ∀ c ∈ gs, c ≠ 58) (hgl : gs.length ≤ 1) (hal : a.length ≤ 2) (hnl : n.size ≤ 20)
    (HX : Hid (∀ (j : Nat) (w : World), j < ts.size → (Instr.index 9 (.string ts) (.int .i64 j)).run Tryd.prog w = .ok (.int .u8 (((a ++ 58 :: gs).getD j 0).toNat : Int)) w)) :
    Calls Tryd.prog 12 #[.agg #[.int .i64 b, .string n, .int .i64 k, .string ts, .int .i64 y]] w fun e w' =>
      ∃ A c, e = .returned (.agg #[.int .i64 b, .string n, .int .i64 k, .slice A (a.map Opx.letter).length c, .int .i64 (gs.map Opx.letter).sum, .int .i64 y, .bool (decide (k = 7) && Lib.hasSuffix n.data.toList [95, 115])]) ∧ Own w.heap.size w w' 3 (.slice A (a.map Opx.letter).length c) (i64s (a.map Opx.letter)) := by
  have HK := Lib.hid kind_any
  go_enter Tryd.func12, Tryd.ntmps12
  go_wp2
  go_loopw [4, 5] (fun gvn i wr => InvM w b k y n ts a gs gvn i wr) (fun _ i _ => 10 - (intOf i).toNat)
  case atStart => exact ⟨0, rfl, .inl ⟨Nat.zero_le _, rfl, _, Mst.start w b k y n ts⟩⟩
  case round =>
    obtain ⟨j, rfl, ⟨hj, rfl, v, hM⟩ | ⟨hj, rfl, v, hM⟩ | ⟨d, hd, hj, rfl, v, hM⟩⟩ := hrel
    · by_cases hlt : j < a.length
      · have hb3 : wr.cell? ⟨w.heap.size, 3, none⟩ = some (.string ts) := hM.box 3
        have hjs : j < ts.size := by omega
        have hx := fun w => HX.out j w hjs
        obtain ⟨d, hd⟩ : ∃ d, d = a[j] := ⟨_, rfl⟩
        have ed : (a ++ 58 :: gs).getD j 0 = d := by rw [hd, List.getD_eq_getElem?_getD, List.getElem?_append_left hlt, List.getElem?_eq_getElem hlt]; rfl
        rw [ed] at hx
        obtain ⟨c, hc⟩ : ∃ c : Int, c = (d.toNat : Int) := ⟨_, rfl⟩
        have hd58 : d ≠ 58 := hd ▸ ha _ (List.getElem_mem hlt)
        have t58 : (c == 58) = false := by
          have : d.toNat ≠ 58 := fun h => hd58 (UInt8.toNat_inj.1 h)
          simp; omega
        rw [← hc] at hx
        have HLt := Lib.hid (letter_int d c hc)
        have HZ : Hid ((a.take (j + 1)).map Opx.letter = (a.take j).map Opx.letter ++ [Opx.letter d]) := Lib.hid (by rw [List.take_add_one, List.getElem?_eq_getElem hlt, ← hd]; simp)
        have q3 : wr.cell? ⟨w.heap.size + 2, 3, none⟩ = some v := hM.op 3
        have f3 := hM.opf 3
        have hj10 : j < 10 := by omega
        have HM := Lib.hid hM
        have hle := hM.le
        have HLT := Lib.hid hlt
        have hll : ((a.take j).map Opx.letter).length < 1000 := by simp; omega
        clear hd ed hg ha hts hM hj hc hgl hal hd58 hlt
        have HO := Lib.hid HM.out.own
        have HKc := Lib.hid (fun w => HK.out c w)
        rw [HLt.out] at HKc
        obtain ⟨u, hu⟩ : ∃ u, u = Opx.letter d := ⟨_, rfl⟩
        rw [← hu] at HKc HZ
        clear HLt HK hu
        go_wp2
        refine wp_region_held_drew (S := fun w' => w'.cell? ⟨w.heap.size, 3, none⟩ = some (.string ts)) (by kernel_rfl) hb3 (fun hHeld => ?_)
        refine region_take 0 (some 34) (v := ?_) rfl rfl (by kernel_rfl) (by kernel_rfl) (by kernel_rfl) (fun _ _ _ h => h) (by rfl) ?_ (by assumption) ?_
        rotate_left
        · (intro w hSw; (try dsimp only at hSw); go_simp; try with_reducible rfl)
        try simp only [Act.put, List.setIfInBounds_toArray, List.set_cons_zero, List.set_cons_succ]
        refine region_take 2 (some 36) (v := ?_) rfl rfl (by kernel_rfl) (by kernel_rfl) (by kernel_rfl) (fun _ _ _ h => h) (by rfl) ?_ (by assumption) ?_
        rotate_left
        · (intro w hSw; (try dsimp only at hSw); go_simp; try with_reducible rfl)
        try simp only [Act.put, List.setIfInBounds_toArray, List.set_cons_zero, List.set_cons_succ]
        refine region_take 3 (some 37) (v := ?_) rfl rfl (by kernel_rfl) (by kernel_rfl) (by kernel_rfl) (fun _ _ _ h => h) (by rfl) ?_ (by assumption) ?_
        rotate_left
        · (intro w hSw; (try dsimp only at hSw); go_simp; try with_reducible rfl)
        try simp only [Act.put, List.setIfInBounds_toArray, List.set_cons_zero, List.set_cons_succ]
        refine region_take 4 (some 38) (v := ?_) rfl rfl (by kernel_rfl) (by kernel_rfl) (by kernel_rfl) (fun _ _ _ h => h) (by rfl) ?_ (by assumption) ?_
        rotate_left
        · (intro w hSw; (try dsimp only at hSw); go_simp; try with_reducible rfl)
        try simp only [Act.put, List.setIfInBounds_toArray, List.set_cons_zero, List.set_cons_succ]
        refine region_take 5 (some 39) (v := ?_) rfl rfl (by kernel_rfl) (by kernel_rfl) (by kernel_rfl) (fun _ _ _ h => h) (by rfl) ?_ (by assumption) ?_
        rotate_left
        · (intro w hSw; (try dsimp only at hSw); go_simp; try with_reducible rfl)
        try simp only [Act.put, List.setIfInBounds_toArray, List.set_cons_zero, List.set_cons_succ]
        have HM2 : Hid (Mst w wr.drew b k y n ts v ((a.take j).map Opx.letter) 0) := Lib.hid (HM.out.drewN 1)
        have hb3a : (wr.drew.alloc (.cells #[.int .i64 u] 3)).cell? ⟨w.heap.size, 3, none⟩ = some (.string ts) := by rw [World.cell?_alloc_past _ _ _ (by show w.heap.size < wr.heap.size; omega)]; exact hb3
        have q3a : (wr.alloc (.cells #[.int .i64 u] 3)).cell? ⟨w.heap.size + 2, 3, none⟩ = some v := by rw [World.cell?_alloc_past _ _ _ (by omega)]; exact q3
        refine wpAnyH_ready (rs := [1, 6]) (by decide +kernel) (by simp) ?_
        refine AllReadyH.cons rfl (fun K hK => ?_) (AllReadyH.cons rfl (fun K hK => ?_) AllReadyH.nil)
        · go_simp
          refine hK.out _ _ hb3 (fun hHeld => ?_)
          clear hK K
          try simp only [Act.put, List.setIfInBounds_toArray, List.set_cons_zero, List.set_cons_succ]
          refine wpAnyH_ready (rs := [6]) (by kernel_rfl) (by simp) ?_
          refine AllReadyH.cons rfl (fun K hK => ?_) AllReadyH.nil
          go_simp
          refine (HKc.out _).mono ?_
          rintro e w' ⟨rfl, rfl⟩
          go_wp2_with fail
          refine hK.out _ _ hb3 (fun hHeld => ?_)
          clear hK K
          try simp only [Act.put, List.setIfInBounds_toArray, List.set_cons_zero, List.set_cons_succ]
          refine wpAnyH_ready (rs := [7]) (by kernel_rfl) (by simp) ?_
          refine AllReadyH.cons rfl (fun K hK => ?_) AllReadyH.nil
          go_simp
          refine hK.out _ _ hb3a (fun hHeld => ?_)
          clear hK K
          try simp only [Act.put, List.setIfInBounds_toArray, List.set_cons_zero, List.set_cons_succ]
          refine wpAnyH_ready (rs := [8]) (by decide +kernel) (by simp) ?_
          refine AllReadyH.cons rfl (fun K hK => ?_) AllReadyH.nil
          refine wanted_yes (by rfl) ?_
          refine wp_push (.tmp 35) (.tmp 41) 23 rfl 3 8 Tryd.underlying23 elem_int (by decide) (w.heap.size + 3) wr.drew wr.drew v _ (.int .i64 u) _ rfl HM2.out.own rfl rfl (by simp; omega) ?_
          intro v3 w3 ho3
          obtain ⟨A3, c3, hv3, -, -, -⟩ := ho3.form
          obtain ⟨L, hL⟩ : ∃ L : Nat, L = (i64s ((a.take j).map Opx.letter) ++ [Value.int .i64 u]).length := ⟨_, rfl⟩
          rw [← hL] at hv3
          clear hL
          subst hv3
          have q4 := (ho3.below.cell (p := ⟨w.heap.size + 2, 3, none⟩) (by simp)).trans q3
          have f4 := (ho3.below.frozen (p := ⟨w.heap.size + 2, 3, none⟩) (by simp)).trans f3
          have hb4 : w3.cell? ⟨w.heap.size, 3, none⟩ = some (.string ts) := (ho3.below.cell (p := ⟨w.heap.size, 3, none⟩) (by simp)).trans hb3
          have HP := Lib.hid (HM2.out.push ho3)
          clear ho3
          refine hK.out _ _ hb4 (fun hHeld => ?_)
          clear hK K
          try simp only [Act.put, List.setIfInBounds_toArray, List.set_cons_zero, List.set_cons_succ]
          refine region_take 9 (some 43) (v := ?_) rfl rfl (by kernel_rfl) (by kernel_rfl) (by kernel_rfl) (fun _ _ _ h => h) (by rfl) ?_ (by assumption) ?_
          rotate_left
          · (intro w hSw; (try dsimp only at hSw); go_simp; try with_reducible rfl)
          try simp only [Act.put, List.setIfInBounds_toArray, List.set_cons_zero, List.set_cons_succ]
          refine wpAnyH_ready (rs := [10]) (by kernel_rfl) (by simp) ?_
          refine AllReadyH.cons rfl (fun K hK => ?_) AllReadyH.nil
          go_simp
          refine hK.out _ _ (by rw [World.cell?_setCell_other _ _ _ _ (by simp)]; exact hb4) (fun hHeld => ?_)
          clear hK K
          try simp only [Act.put, List.setIfInBounds_toArray, List.set_cons_zero, List.set_cons_succ]
          refine wpAnyH_done (by kernel_rfl) ?_ _
          go_wp2
          go_roundw
          case rel => exact ⟨j + 1, by go_num, .inl ⟨by have := HLT.out; omega, rfl, _, by rw [HZ.out]; exact HP.out⟩⟩
          case measure => simp [intOf]; omega
        · go_simp
          refine (HKc.out _).mono ?_
          rintro e w' ⟨rfl, rfl⟩
          go_wp2_with fail
          refine hK.out _ _ hb3 (fun hHeld => ?_)
          clear hK K
          try simp only [Act.put, List.setIfInBounds_toArray, List.set_cons_zero, List.set_cons_succ]
          refine wpAnyH_ready (rs := [1, 7]) (by decide +kernel) (by simp) ?_
          refine AllReadyH.cons rfl (fun K hK => ?_) (AllReadyH.cons rfl (fun K hK => ?_) AllReadyH.nil)
          · go_simp
            refine hK.out _ _ hb3 (fun hHeld => ?_)
            clear hK K
            try simp only [Act.put, List.setIfInBounds_toArray, List.set_cons_zero, List.set_cons_succ]
            refine wpAnyH_ready (rs := [7]) (by kernel_rfl) (by simp) ?_
            refine AllReadyH.cons rfl (fun K hK => ?_) AllReadyH.nil
            go_simp
            refine hK.out _ _ hb3a (fun hHeld => ?_)
            clear hK K
            try simp only [Act.put, List.setIfInBounds_toArray, List.set_cons_zero, List.set_cons_succ]
            refine wpAnyH_ready (rs := [8]) (by decide +kernel) (by simp) ?_
            refine AllReadyH.cons rfl (fun K hK => ?_) AllReadyH.nil
            refine wanted_yes (by rfl) ?_
            refine wp_push (.tmp 35) (.tmp 41) 23 rfl 3 8 Tryd.underlying23 elem_int (by decide) (w.heap.size + 3) wr.drew wr.drew v _ (.int .i64 u) _ rfl HM2.out.own rfl rfl (by simp; omega) ?_
            intro v3 w3 ho3
            obtain ⟨A3, c3, hv3, -, -, -⟩ := ho3.form
            obtain ⟨L, hL⟩ : ∃ L : Nat, L = (i64s ((a.take j).map Opx.letter) ++ [Value.int .i64 u]).length := ⟨_, rfl⟩
            rw [← hL] at hv3
            clear hL
            subst hv3
            have q4 := (ho3.below.cell (p := ⟨w.heap.size + 2, 3, none⟩) (by simp)).trans q3
            have f4 := (ho3.below.frozen (p := ⟨w.heap.size + 2, 3, none⟩) (by simp)).trans f3
            have hb4 : w3.cell? ⟨w.heap.size, 3, none⟩ = some (.string ts) := (ho3.below.cell (p := ⟨w.heap.size, 3, none⟩) (by simp)).trans hb3
            have HP := Lib.hid (HM2.out.push ho3)
            clear ho3
            refine hK.out _ _ hb4 (fun hHeld => ?_)
            clear hK K
            try simp only [Act.put, List.setIfInBounds_toArray, List.set_cons_zero, List.set_cons_succ]
            refine region_take 9 (some 43) (v := ?_) rfl rfl (by kernel_rfl) (by kernel_rfl) (by kernel_rfl) (fun _ _ _ h => h) (by rfl) ?_ (by assumption) ?_
            rotate_left
            · (intro w hSw; (try dsimp only at hSw); go_simp; try with_reducible rfl)
            try simp only [Act.put, List.setIfInBounds_toArray, List.set_cons_zero, List.set_cons_succ]
            refine wpAnyH_ready (rs := [10]) (by kernel_rfl) (by simp) ?_
            refine AllReadyH.cons rfl (fun K hK => ?_) AllReadyH.nil
            go_simp
            refine hK.out _ _ (by rw [World.cell?_setCell_other _ _ _ _ (by simp)]; exact hb4) (fun hHeld => ?_)
            clear hK K
            try simp only [Act.put, List.setIfInBounds_toArray, List.set_cons_zero, List.set_cons_succ]
            refine wpAnyH_done (by kernel_rfl) ?_ _
            go_wp2
            go_roundw
            case rel => exact ⟨j + 1, by go_num, .inl ⟨by have := HLT.out; omega, rfl, _, by rw [HZ.out]; exact HP.out⟩⟩
            case measure => simp [intOf]; omega
          · go_simp
            refine hK.out _ _ hb3a (fun hHeld => ?_)
            clear hK K
            try simp only [Act.put, List.setIfInBounds_toArray, List.set_cons_zero, List.set_cons_succ]
            refine wpAnyH_ready (rs := [1]) (by kernel_rfl) (by simp) ?_
            refine AllReadyH.cons rfl (fun K hK => ?_) AllReadyH.nil
            go_simp
            refine hK.out _ _ hb3a (fun hHeld => ?_)
            clear hK K
            try simp only [Act.put, List.setIfInBounds_toArray, List.set_cons_zero, List.set_cons_succ]
            refine wpAnyH_ready (rs := [8]) (by decide +kernel) (by simp) ?_
            refine AllReadyH.cons rfl (fun K hK => ?_) AllReadyH.nil
            refine wanted_yes (by rfl) ?_
            refine wp_push (.tmp 35) (.tmp 41) 23 rfl 3 8 Tryd.underlying23 elem_int (by decide) (w.heap.size + 3) wr.drew wr.drew v _ (.int .i64 u) _ rfl HM2.out.own rfl rfl (by simp; omega) ?_
            intro v3 w3 ho3
            obtain ⟨A3, c3, hv3, -, -, -⟩ := ho3.form
            obtain ⟨L, hL⟩ : ∃ L : Nat, L = (i64s ((a.take j).map Opx.letter) ++ [Value.int .i64 u]).length := ⟨_, rfl⟩
            rw [← hL] at hv3
            clear hL
            subst hv3
            have q4 := (ho3.below.cell (p := ⟨w.heap.size + 2, 3, none⟩) (by simp)).trans q3
            have f4 := (ho3.below.frozen (p := ⟨w.heap.size + 2, 3, none⟩) (by simp)).trans f3
            have hb4 : w3.cell? ⟨w.heap.size, 3, none⟩ = some (.string ts) := (ho3.below.cell (p := ⟨w.heap.size, 3, none⟩) (by simp)).trans hb3
            have HP := Lib.hid (HM2.out.push ho3)
            clear ho3
            refine hK.out _ _ hb4 (fun hHeld => ?_)
            clear hK K
            try simp only [Act.put, List.setIfInBounds_toArray, List.set_cons_zero, List.set_cons_succ]
            refine region_take 9 (some 43) (v := ?_) rfl rfl (by kernel_rfl) (by kernel_rfl) (by kernel_rfl) (fun _ _ _ h => h) (by rfl) ?_ (by assumption) ?_
            rotate_left
            · (intro w hSw; (try dsimp only at hSw); go_simp; try with_reducible rfl)
            try simp only [Act.put, List.setIfInBounds_toArray, List.set_cons_zero, List.set_cons_succ]
            refine wpAnyH_ready (rs := [10]) (by kernel_rfl) (by simp) ?_
            refine AllReadyH.cons rfl (fun K hK => ?_) AllReadyH.nil
            go_simp
            refine hK.out _ _ (by rw [World.cell?_setCell_other _ _ _ _ (by simp)]; exact hb4) (fun hHeld => ?_)
            clear hK K
            try simp only [Act.put, List.setIfInBounds_toArray, List.set_cons_zero, List.set_cons_succ]
            refine wpAnyH_done (by kernel_rfl) ?_ _
            go_wp2
            go_roundw
            case rel => exact ⟨j + 1, by go_num, .inl ⟨by have := HLT.out; omega, rfl, _, by rw [HZ.out]; exact HP.out⟩⟩
            case measure => simp [intOf]; omega
      · have hja : j = a.length := by omega
        have hb3 : wr.cell? ⟨w.heap.size, 3, none⟩ = some (.string ts) := hM.box 3
        have hjs : j < ts.size := by omega
        have hx := fun w => HX.out j w hjs
        have ed : (a ++ 58 :: gs).getD j 0 = 58 := by rw [hja]; simp
        rw [ed] at hx
        have hx' : ∀ w, (Instr.index 9 (.string ts) (.int .i64 j)).run Tryd.prog w = .ok (.int .u8 58) w := hx
        have HJ := Lib.hid hja
        have hj10 : j < 10 := by omega
        have HM := Lib.hid hM
        clear ed hg ha hts hM hj hgl hal hlt hx hja
        go_wp2
        go_roundw
        case rel => exact ⟨j + 1, by go_num, .inr (.inl ⟨by have := HJ.out; omega, rfl, v, by have h := HM.out; rw [HJ.out, List.take_length] at h; exact h⟩)⟩
        case measure => simp [intOf]; omega
    · have hb3 : wr.cell? ⟨w.heap.size, 3, none⟩ = some (.string ts) := hM.box 3
      rcases gs with _ | ⟨d, _ | ⟨d2, gs⟩⟩
      · skip
        have hjs : ¬ j < ts.size := by simp at hts; omega
        have HM := Lib.hid hM
        obtain ⟨A, c, hv, -, -, -⟩ := hM.own.form
        rw [i64s_length] at hv
        subst hv
        have b1 : wr.cell? ⟨w.heap.size, 1, none⟩ = some (.string n) := hM.box 1
        have b2 : wr.cell? ⟨w.heap.size, 2, none⟩ = some (.int .i64 k) := hM.box 2
        have hb3 : wr.cell? ⟨w.heap.size, 3, none⟩ = some (.string ts) := hM.box 3
        have o0 : wr.cell? ⟨w.heap.size + 2, 0, none⟩ = some (.int .i64 b) := hM.op 0
        have o1 : wr.cell? ⟨w.heap.size + 2, 1, none⟩ = some (.string n) := hM.op 1
        have o2 : wr.cell? ⟨w.heap.size + 2, 2, none⟩ = some (.int .i64 k) := hM.op 2
        have o3 : wr.cell? ⟨w.heap.size + 2, 3, none⟩ = some (.slice A (a.map Opx.letter).length c) := hM.op 3
        have o4 : wr.cell? ⟨w.heap.size + 2, 4, none⟩ = some (.int .i64 0) := hM.op 4
        have o5 : wr.cell? ⟨w.heap.size + 2, 5, none⟩ = some (.int .i64 y) := hM.op 5
        have o6 : wr.cell? ⟨w.heap.size + 2, 6, none⟩ = some (.bool false) := hM.op 6
        have of := hM.opf
        have r0 : wr.cell? ⟨w.heap.size + 1, 0, none⟩ = some (.int .i64 0) := hM.res 0
        have r1 : wr.cell? ⟨w.heap.size + 1, 1, none⟩ = some (.string ⟨#[]⟩) := hM.res 1
        have r2 : wr.cell? ⟨w.heap.size + 1, 2, none⟩ = some (.int .i64 0) := hM.res 2
        have r3 : wr.cell? ⟨w.heap.size + 1, 3, none⟩ = some (.slice none 0 0) := hM.res 3
        have r4 : wr.cell? ⟨w.heap.size + 1, 4, none⟩ = some (.int .i64 0) := hM.res 4
        have r5 : wr.cell? ⟨w.heap.size + 1, 5, none⟩ = some (.int .i64 0) := hM.res 5
        have r6 : wr.cell? ⟨w.heap.size + 1, 6, none⟩ = some (.bool false) := hM.res 6
        have rf := hM.resf
        have HQ : Hid (Kp3 w wr (.slice A (a.map Opx.letter).length c) (i64s (a.map Opx.letter))) := Lib.hid ⟨by simpa using hM.row, hM.below, hM.le⟩
        clear hM hj hg ha hts hgl hal HX HM HK
        have hnl' : n.size ≤ 9223372036854775807 := by omega
        have HE := Lib.hid (fun w => ends_any n ⟨#[95, 115]⟩ w hnl' (by decide))
        simp only at HE
        obtain ⟨sb, hsb⟩ : ∃ sb, sb = Lib.hasSuffix n.data.toList [95, 115] := ⟨_, rfl⟩
        rw [← hsb] at HE
        have HSB := Lib.hid hsb
        clear hsb hnl hnl'
        by_cases hk7 : k = 7
        · have t7 : (k == 7) = true := by simpa using hk7
          have HK7 := Lib.hid (show sb = (decide (k = 7) && Lib.hasSuffix n.data.toList [95, 115]) by rw [HSB.out]; simp [hk7])
          clear hk7
          go_wp2_with (go_at_call 21; refine (HE.out _).mono ?_; rintro e w' ⟨rfl, rfl⟩)
          refine bodyPost_ret (v := .agg #[.int .i64 b, .string n, .int .i64 k, .slice A (a.map Opx.letter).length c, .int .i64 0, .int .i64 y, .bool sb]) (by simp [results, Tryd.results12, go_sem, r0, r1, r2, r3, r4, r5, r6]) rfl ?_
          exact ⟨A, c, by rw [← HK7.out]; simp, ((((((((HQ.out.setCell (w.heap.size + 2) 6 _ ⟨by omega, by omega⟩).setCell (w.heap.size + 1) 0 _ ⟨by omega, by omega⟩).setCell (w.heap.size + 1) 1 _ ⟨by omega, by omega⟩).setCell (w.heap.size + 1) 2 _ ⟨by omega, by omega⟩).setCell (w.heap.size + 1) 3 _ ⟨by omega, by omega⟩).setCell (w.heap.size + 1) 4 _ ⟨by omega, by omega⟩).setCell (w.heap.size + 1) 5 _ ⟨by omega, by omega⟩).setCell (w.heap.size + 1) 6 _ ⟨by omega, by omega⟩).own⟩
        · have t7 : (k == 7) = false := by simpa using hk7
          have HK7 := Lib.hid (show false = (decide (k = 7) && Lib.hasSuffix n.data.toList [95, 115]) by simp [hk7])
          clear hk7
          go_wp2_with (go_at_call 21; refine (HE.out _).mono ?_; rintro e w' ⟨rfl, rfl⟩)
          refine bodyPost_ret (v := .agg #[.int .i64 b, .string n, .int .i64 k, .slice A (a.map Opx.letter).length c, .int .i64 0, .int .i64 y, .bool false]) (by simp [results, Tryd.results12, go_sem, r0, r1, r2, r3, r4, r5, r6]) rfl ?_
          exact ⟨A, c, by rw [← HK7.out]; simp, ((((((((HQ.out.setCell (w.heap.size + 2) 6 _ ⟨by omega, by omega⟩).setCell (w.heap.size + 1) 0 _ ⟨by omega, by omega⟩).setCell (w.heap.size + 1) 1 _ ⟨by omega, by omega⟩).setCell (w.heap.size + 1) 2 _ ⟨by omega, by omega⟩).setCell (w.heap.size + 1) 3 _ ⟨by omega, by omega⟩).setCell (w.heap.size + 1) 4 _ ⟨by omega, by omega⟩).setCell (w.heap.size + 1) 5 _ ⟨by omega, by omega⟩).setCell (w.heap.size + 1) 6 _ ⟨by omega, by omega⟩).own⟩
      · have hjs : j < ts.size := by simp at hts; omega
        have hx := fun w => HX.out j w hjs
        have ed : (a ++ 58 :: [d]).getD j 0 = d := by rw [hj]; simp
        rw [ed] at hx
        obtain ⟨c, hc⟩ : ∃ c : Int, c = (d.toNat : Int) := ⟨_, rfl⟩
        have hd : d ≠ 58 := hg d (by simp)
        have t58 : (c == 58) = false := by
          have : d.toNat ≠ 58 := fun h => hd (UInt8.toNat_inj.1 h)
          simp; omega
        rw [← hc] at hx
        have q4 : wr.cell? ⟨w.heap.size + 2, 4, none⟩ = some (.int .i64 0) := hM.op 4
        have f4 := hM.opf 4
        have HM := Lib.hid hM
        have HJ := Lib.hid hj
        have hj10 : j < 10 := by omega
        have HLt := Lib.hid (letter_int d c hc)
        have HC := Lib.hid hc
        clear hd ed hg ha hts hM hj hc hgl hal
        go_wp2_with (go_at_call 20; refine (HK.out _ _).mono ?_; rintro e w' ⟨rfl, rfl⟩)
        go_roundw
        case rel => exact ⟨j + 1, by go_num, .inr (.inr ⟨d, rfl, by have := HJ.out; omega, rfl, v, by rw [← HLt.out]; exact HM.out.gives _⟩)⟩
        case measure => simp [intOf]; omega
      · simp at hgl
    · subst hd
      have hjs : ¬ j < ts.size := by simp at hts; omega
      have HM := Lib.hid hM
      obtain ⟨A, c, hv, -, -, -⟩ := hM.own.form
      rw [i64s_length] at hv
      subst hv
      have b1 : wr.cell? ⟨w.heap.size, 1, none⟩ = some (.string n) := hM.box 1
      have b2 : wr.cell? ⟨w.heap.size, 2, none⟩ = some (.int .i64 k) := hM.box 2
      have hb3 : wr.cell? ⟨w.heap.size, 3, none⟩ = some (.string ts) := hM.box 3
      have o0 : wr.cell? ⟨w.heap.size + 2, 0, none⟩ = some (.int .i64 b) := hM.op 0
      have o1 : wr.cell? ⟨w.heap.size + 2, 1, none⟩ = some (.string n) := hM.op 1
      have o2 : wr.cell? ⟨w.heap.size + 2, 2, none⟩ = some (.int .i64 k) := hM.op 2
      have o3 : wr.cell? ⟨w.heap.size + 2, 3, none⟩ = some (.slice A (a.map Opx.letter).length c) := hM.op 3
      have o4 : wr.cell? ⟨w.heap.size + 2, 4, none⟩ = some (.int .i64 (Opx.letter d)) := hM.op 4
      have o5 : wr.cell? ⟨w.heap.size + 2, 5, none⟩ = some (.int .i64 y) := hM.op 5
      have o6 : wr.cell? ⟨w.heap.size + 2, 6, none⟩ = some (.bool false) := hM.op 6
      have of := hM.opf
      have r0 : wr.cell? ⟨w.heap.size + 1, 0, none⟩ = some (.int .i64 0) := hM.res 0
      have r1 : wr.cell? ⟨w.heap.size + 1, 1, none⟩ = some (.string ⟨#[]⟩) := hM.res 1
      have r2 : wr.cell? ⟨w.heap.size + 1, 2, none⟩ = some (.int .i64 0) := hM.res 2
      have r3 : wr.cell? ⟨w.heap.size + 1, 3, none⟩ = some (.slice none 0 0) := hM.res 3
      have r4 : wr.cell? ⟨w.heap.size + 1, 4, none⟩ = some (.int .i64 0) := hM.res 4
      have r5 : wr.cell? ⟨w.heap.size + 1, 5, none⟩ = some (.int .i64 0) := hM.res 5
      have r6 : wr.cell? ⟨w.heap.size + 1, 6, none⟩ = some (.bool false) := hM.res 6
      have rf := hM.resf
      have HQ : Hid (Kp3 w wr (.slice A (a.map Opx.letter).length c) (i64s (a.map Opx.letter))) := Lib.hid ⟨by simpa using hM.row, hM.below, hM.le⟩
      clear hM hj hg ha hts hgl hal HX HM HK
      have hnl' : n.size ≤ 9223372036854775807 := by omega
      have HE := Lib.hid (fun w => ends_any n ⟨#[95, 115]⟩ w hnl' (by decide))
      simp only at HE
      obtain ⟨sb, hsb⟩ : ∃ sb, sb = Lib.hasSuffix n.data.toList [95, 115] := ⟨_, rfl⟩
      rw [← hsb] at HE
      have HSB := Lib.hid hsb
      clear hsb hnl hnl'
      by_cases hk7 : k = 7
      · have t7 : (k == 7) = true := by simpa using hk7
        have HK7 := Lib.hid (show sb = (decide (k = 7) && Lib.hasSuffix n.data.toList [95, 115]) by rw [HSB.out]; simp [hk7])
        clear hk7
        go_wp2_with (go_at_call 21; refine (HE.out _).mono ?_; rintro e w' ⟨rfl, rfl⟩)
        refine bodyPost_ret (v := .agg #[.int .i64 b, .string n, .int .i64 k, .slice A (a.map Opx.letter).length c, .int .i64 (Opx.letter d), .int .i64 y, .bool sb]) (by simp [results, Tryd.results12, go_sem, r0, r1, r2, r3, r4, r5, r6]) rfl ?_
        exact ⟨A, c, by rw [← HK7.out]; simp, ((((((((HQ.out.setCell (w.heap.size + 2) 6 _ ⟨by omega, by omega⟩).setCell (w.heap.size + 1) 0 _ ⟨by omega, by omega⟩).setCell (w.heap.size + 1) 1 _ ⟨by omega, by omega⟩).setCell (w.heap.size + 1) 2 _ ⟨by omega, by omega⟩).setCell (w.heap.size + 1) 3 _ ⟨by omega, by omega⟩).setCell (w.heap.size + 1) 4 _ ⟨by omega, by omega⟩).setCell (w.heap.size + 1) 5 _ ⟨by omega, by omega⟩).setCell (w.heap.size + 1) 6 _ ⟨by omega, by omega⟩).own⟩
      · have t7 : (k == 7) = false := by simpa using hk7
        have HK7 := Lib.hid (show false = (decide (k = 7) && Lib.hasSuffix n.data.toList [95, 115]) by simp [hk7])
        clear hk7
        go_wp2_with (go_at_call 21; refine (HE.out _).mono ?_; rintro e w' ⟨rfl, rfl⟩)
        refine bodyPost_ret (v := .agg #[.int .i64 b, .string n, .int .i64 k, .slice A (a.map Opx.letter).length c, .int .i64 (Opx.letter d), .int .i64 y, .bool false]) (by simp [results, Tryd.results12, go_sem, r0, r1, r2, r3, r4, r5, r6]) rfl ?_
        exact ⟨A, c, by rw [← HK7.out]; simp, ((((((((HQ.out.setCell (w.heap.size + 2) 6 _ ⟨by omega, by omega⟩).setCell (w.heap.size + 1) 0 _ ⟨by omega, by omega⟩).setCell (w.heap.size + 1) 1 _ ⟨by omega, by omega⟩).setCell (w.heap.size + 1) 2 _ ⟨by omega, by omega⟩).setCell (w.heap.size + 1) 3 _ ⟨by omega, by omega⟩).setCell (w.heap.size + 1) 4 _ ⟨by omega, by omega⟩).setCell (w.heap.size + 1) 5 _ ⟨by omega, by omega⟩).setCell (w.heap.size + 1) 6 _ ⟨by omega, by omega⟩).own⟩

end Go.Proofs.YtblmhlojbjhmnaaDoor
