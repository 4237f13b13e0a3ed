/- Contract of the reference's Copy: a list of instructions in new memory. -/
import Derived.Test.YtbhniddgkdldlaaGreatDoorTreeM0
set_option linter.unusedVariables false
set_option linter.unusedSimpArgs false
namespace Go.Proofs.YtbhniddgkdldlaaGreatDoor
open Go.RowKit Trx

/-- two worlds agree at the blocks of S. -/
def Agr (S : Nat → Prop) (w w' : World) : Prop := ∀ b o, S b → w'.cell? ⟨b, o, none⟩ = w.cell? ⟨b, o, none⟩
/-- what reads so hangs on the blocks of S alone. -/
def NewS (S : Nat → Prop) (w : World) (B : Nat) (A : Option Addr) (vs : List Value) : Prop := ∀ w', Agr S w w' → Sl w' B A vs
def NewF (S : Nat → Prop) (w : World) (B : Nat) (A : Option Addr) (f : Fo) : Prop := ∀ w', Agr S w w' → RdS w' B A f
def NewN (S : Nat → Prop) (w : World) (B : Nat) (i : In) : Prop := ∀ w', Agr S w w' → NdOk w' B i.n i.p
/-- the blocks from lo on. -/
def Win (lo : Nat) (w : World) : Nat → Prop := fun b => lo ≤ b ∧ b < w.heap.size
section
variable {S S' : Nat → Prop} {w w' w'' : World} {B B' : Nat} {A : Option Addr} {vs : List Value} {f : Fo} {i : In}
theorem Agr.refl_ : Agr S w w := fun _ _ _ => rfl
theorem Agr.trans (h : Agr S w w') (h2 : Agr S w' w'') : Agr S w w'' := fun b o hb => (h2 b o hb).trans (h b o hb)
theorem Agr.sub (h : Agr S' w w') (hs : ∀ b, S b → S' b) : Agr S w w' := fun b o hb => h b o (hs b hb)
theorem NewS.move (h : NewS S w B A vs) (ha : Agr S w w') (hs : ∀ b, S b → S' b) (hB : B ≤ B') : NewS S' w' B' A vs := fun _ hx => (h _ (ha.trans (hx.sub hs))).more hB
theorem NewF.move (h : NewF S w B A f) (ha : Agr S w w') (hs : ∀ b, S b → S' b) (hB : B ≤ B') : NewF S' w' B' A f := fun _ hx => (h _ (ha.trans (hx.sub hs))).more hB
theorem NewN.move (h : NewN S w B i) (ha : Agr S w w') (hs : ∀ b, S b → S' b) (hB : B ≤ B') : NewN S' w' B' i := fun _ hx => (h _ (ha.trans (hx.sub hs))).more hB
theorem NewS.get (h : NewS S w B A vs) : Sl w B A vs := h w Agr.refl_
theorem NewF.get (h : NewF S w B A f) : RdS w B A f := h w Agr.refl_
theorem Below.agr (h : Below B w w') (hs : ∀ b, S b → b < B) : Agr S w w' := fun b o hb => h.cell (p := ⟨b, o, none⟩) (hs b hb)
theorem agr_of_heap (h : ∀ b, S b → w'.heap[b]? = w.heap[b]?) : Agr S w w' := fun b o hb => World.cell?_of_block (h b hb)
/-- a row of the call's own: what it reads hangs on its own block. -/
theorem OwnK.newS {B : Nat} {w0 w : World} {e : TypeId} {A : Option Addr} {n c : Nat} {vs : List Value} (h : OwnK B w0 w e 1 (.slice A n c) (ones vs)) (hS : ∀ g, (Value.slice A n c).ownBlock = some g → S g) : NewS S w w.heap.size A vs := by
  obtain ⟨A', c', hv, -, -, hrow⟩ := h.formB (by omega)
  simp at hv
  obtain ⟨rfl, rfl, rfl⟩ := hv
  intro w' ha hne
  obtain ⟨g, hg, hA, hB, hlt, hc⟩ := hrow (fun e => hne (by
    have := congrArg List.length e
    rw [ones_length, List.length_nil] at this
    exact List.eq_nil_of_length_eq_zero this))
  refine ⟨g, 0, hA, hlt, fun i hi => ?_⟩
  have := hc i [vs[i]] (by simp [ones, List.getElem?_eq_getElem hi]) 0 (by omega)
  rw [Nat.mul_one, Nat.add_zero] at this
  rw [Nat.zero_add, ha g i (hS g hg), this, List.getElem?_eq_getElem hi]
  rfl
end
/-- behind a store into a cell of a block, and a call that changes nothing older. -/
theorem after_set {w w' : World} {n i : Nat} {u x : Value} (hb : Below (w.setCell ⟨n, i, none⟩ u).heap.size (w.setCell ⟨n, i, none⟩ u) w') (hx : w.cell? ⟨n, i, none⟩ = some x) :
    w'.cell? ⟨n, i, none⟩ = some u ∧ (∀ j v, j ≠ i → w.cell? ⟨n, j, none⟩ = some v → w'.cell? ⟨n, j, none⟩ = some v) ∧ (∀ j, w'.frozen? ⟨n, j, none⟩ = w.frozen? ⟨n, j, none⟩) ∧ w.heap.size ≤ w'.heap.size ∧ n < w.heap.size ∧
    (∀ b, b < w.heap.size → b ≠ n → w'.heap[b]? = w.heap[b]?) ∧ (∀ B, B ≤ n → Below B w w') := by
  have hn : n < w.heap.size := World.block_lt_of_cell? _ _ hx
  have hs : (w.setCell ⟨n, i, none⟩ u).heap.size = w.heap.size := by simp [World.setCell]
  rw [hs] at hb
  refine ⟨(hb.cell (p := ⟨n, i, none⟩) hn).trans (World.cell?_setCell_same _ _ _ hx), fun j v hj hv => (hb.cell (p := ⟨n, j, none⟩) hn).trans ((World.cell?_setCell_other _ _ _ _ (by intro e; injection e with _ e; omega)).trans hv), fun j => (hb.frozen (p := ⟨n, j, none⟩) hn).trans (World.frozen?_setCell _ _ _ _), by have := hb.size; rw [hs] at this; exact this, hn, fun b hbl hne => ?_, fun B hB => ?_⟩
  · rw [hb.block b hbl, Below.heap_setCell _ _ _ _ (by simpa using hne)]
  · exact ((Below.refl B w).setCell (show B ≤ n from hB) u).trans (hb.mono (by omega))

/-- a new block of nine cells, behind a call that changes nothing older. -/
theorem nineD {w0 w : World} {a0 a1 a2 a3 a4 a5 a6 a7 a8 : Value} {t : TypeId} (h : Below (w0.alloc (.cells #[a0, a1, a2, a3, a4, a5, a6, a7, a8] t)).heap.size (w0.alloc (.cells #[a0, a1, a2, a3, a4, a5, a6, a7, a8] t)) w) :
    (w0.heap.size < w.heap.size) ∧ (w.cell? ⟨w0.heap.size, 0, none⟩ = some a0) ∧ (w.cell? ⟨w0.heap.size, 1, none⟩ = some a1) ∧ (w.cell? ⟨w0.heap.size, 2, none⟩ = some a2) ∧ (w.cell? ⟨w0.heap.size, 3, none⟩ = some a3) ∧
    (w.cell? ⟨w0.heap.size, 4, none⟩ = some a4) ∧ (w.cell? ⟨w0.heap.size, 5, none⟩ = some a5) ∧ (w.cell? ⟨w0.heap.size, 6, none⟩ = some a6) ∧ (w.cell? ⟨w0.heap.size, 7, none⟩ = some a7) ∧ (w.cell? ⟨w0.heap.size, 8, none⟩ = some a8) ∧
    (∀ i, w.frozen? ⟨w0.heap.size, i, none⟩ = false) ∧ Below w0.heap.size w0 w := by
  have hc : ∀ i, w.cell? ⟨w0.heap.size, i, none⟩ = (#[a0, a1, a2, a3, a4, a5, a6, a7, a8] : Array Value)[i]? := fun i => (h.cell (p := ⟨w0.heap.size, i, none⟩) (by simp)).trans (World.cell?_alloc_at _ _ _ _ rfl)
  exact ⟨by have := h.size; simp at this; omega, hc 0, hc 1, hc 2, hc 3, hc 4, hc 5, hc 6, hc 7, hc 8, fun i => (h.frozen (p := ⟨w0.heap.size, i, none⟩) (by simp)).trans (World.frozen?_alloc_at _ _ _ _ rfl), bel_alloc h⟩
theorem OwnK.lit0' (w : World) (e : TypeId) (k n : Nat) (hn : n = w.heap.size) : OwnK w.heap.size w (w.alloc (.cells #[] e)) e k (.slice (some ⟨n, 0, none⟩) 0 0) [] := by subst hn; exact OwnK.lit0 w e k
theorem In.one (i : In) : ∀ u ∈ i.cells, u.oneCell' = true := by
  intro u hu
  simp [In.cells, insC] at hu
  rcases hu with rfl | rfl | rfl | rfl | rfl | rfl | rfl | rfl | rfl <;> rfl
theorem elem_ins : ElemK Tryz.prog 49 9 120 := ElemK.mk_ (z := .agg #[.int .i64 0, .int .i64 0, .int .i64 0, .int .u64 0, .int .i64 0, .slice none 0 0, .slice none 0 0, .slice none 0 0, .bool false]) (by kernel_rfl) rfl
theorem n64_one (zs : List Int) : ∀ r ∈ ones (n64s zs), ∀ u ∈ r, u.oneCell' = true := by
  intro r hr u hu
  obtain ⟨v, hv, rfl⟩ := List.mem_map.1 hr
  simp at hu
  subst hu
  obtain ⟨z, _, rfl⟩ := List.mem_map.1 hv
  rfl
/-- what was copied so far. -/
def CpS (lo : Nat) (w : World) (v : Value) : Nat → Prop := fun b => lo ≤ b ∧ b < w.heap.size ∧ v.ownBlock ≠ some b
def CpL (f : Fo) (w : World) (v i : Value) (wr : World) : Prop :=
  ∃ (j : Nat) (ins : List In), j ≤ len f ∧ i = .int .i64 j ∧ ins.map (·.n) = (nds f).take j ∧ OwnK w.heap.size w wr 49 9 v (ins.map In.cells) ∧ ∀ x ∈ ins, NewN (CpS w.heap.size wr v) wr wr.heap.size x

set_option maxHeartbeats 16000000 in
set_option maxRecDepth 100000 in
theorem Copy_any (k : Nat) : ∀ (f : Fo) (A : Option Addr) (c : Nat) (w : World), cnt f ≤ k → RdS w w.heap.size A f → Light f → len f * 120 ≤ RB →
    Calls Tryz.prog 18 #[.slice A (len f) c] w fun e w' => ∃ A' c', e = .returned (.slice A' (len f) c') ∧ len f ≤ c' ∧ c' ≤ maxLen ∧ NewF (Win w.heap.size w') w' w'.heap.size A' f ∧ Below w.heap.size w w' ∧ (len f ≠ 0 → ∃ g, A' = some ⟨g, 0, none⟩ ∧ w.heap.size ≤ g ∧ g < w'.heap.size) := by
  induction k using Nat.strongRecOn with
  | ind k ih =>
    intro f A c w hk hr hli hrb
    unfold RB at hrb
    have HR := Lib.hid hr
    have HL := Lib.hid hli
    have HIH := Lib.hid ih
    clear ih hr hli
    go_enter Tryz.func18, Tryz.ntmps18
    go_wp2_with fail
    go_loopw [3, 4] (fun v i wr => CpL f w v i wr) (fun _ i _ => len f - (intOf i).toNat)
    case atStart => exact ⟨0, [], by omega, rfl, by simp, OwnK.nil_ _ _ _ _ (Below.refl _ _) (Nat.le_refl _), by simp⟩
    case round =>
      obtain ⟨j, ins, hj, rfl, hins, ho, hnew⟩ := hrel
      have hil : ins.length = j := by have := congrArg List.length hins; rw [List.length_map, List.length_take] at this; unfold len at hj; omega
      by_cases hlt : j < len f
      · obtain ⟨b, o, n, p, rfl, hn, hat0⟩ := HR.out.at_ hlt
        have hbel := ho.below
        obtain ⟨q0, q1, q2, q3, q4, q5, q6, q7, q8⟩ := (hat0.below hbel).nine
        have hb := Nat.lt_of_lt_of_le hat0.lt hbel.size
        have hmem : n ∈ nds f := List.mem_of_getElem? hn
        have hln := HL.out.mem hmem
        have hok := hat0.ok
        have HB := Lib.hid (fun w' (hb : Below w.heap.size w w') => HIH.out _ (Nat.lt_of_lt_of_le (cnt_mem hmem).1 hk) n.body p.Ab p.cb w' (Nat.le_refl _) ((hok.body.below hb).more hb.size) hln.body hln.b)
        have HE := Lib.hid (fun w' (hb : Below w.heap.size w w') => HIH.out _ (Nat.lt_of_lt_of_le (cnt_mem hmem).2 hk) n.els p.Ae p.ce w' (Nat.le_refl _) ((hok.els.below hb).more hb.size) hln.els hln.e)
        have hLL := hln.L
        unfold RB at hLL
        have HLr := Lib.hid (fun w' (hb : Below w.heap.size w w') => ((hok.num.sL.below hb).more hb.size).ones)
        have HBel := Lib.hid hbel
        have hsz := hbel.size
        have HO := Lib.hid ho
        have HNew := Lib.hid hnew
        have HIns := Lib.hid hins
        have HN := Lib.hid hn
        have HOk := Lib.hid hok
        clear hat0 hbel hmem hln hok hnew hins hn HIH ho HR HL
        have HIL := Lib.hid hil
        have hil' : ins.length ≤ j := by omega
        clear hil
        go_wp2_with (first
          | (at_builtin; refine wpList_catK rfl (.tmp 16) (.tmp 18) _ rfl 8 Tryz.underlying47 elem_int (by decide) rfl (OwnK.lit0' _ _ _ _ (by simp)) rfl (HLr.out _ ((HBel.out.alloc hsz _).alloc (by simp; omega) _)) (ones_len _) (by simp) (n64_one _) (by simp; omega) (by simp; unfold maxLen; omega) ?_; intro vL wL hoL _ _; obtain ⟨AL', cL', hvL, hlL, hmL, -⟩ := hoL.form; simp only [List.nil_append, ones_length, n64s_length] at hvL hlL; subst hvL; obtain ⟨hlt1, k0, k1, k2, k3, k4, k5, k6, k7, k8, kf, hw1⟩ := nineD hoL.below; have HW1 := Lib.hid (HBel.out.trans (hw1.mono hsz)); have HR1 := Lib.hid hw1; have HOL := Lib.hid hoL; clear hoL hw1)
          | (go_at_call 18; ((with_reducible refine (HB.out _ (HW1.out.setCell (by omega) _)).mono ?_); rintro e wB ⟨Ab', cb', rfl, lb, mb, nb, hbB, -⟩; obtain ⟨s5, sk, sf, ssz, -, sh, sb⟩ := after_set hbB k5; have j0 := sk 0 _ (by decide) k0; have j1 := sk 1 _ (by decide) k1; have j2 := sk 2 _ (by decide) k2; have j3 := sk 3 _ (by decide) k3; have j4 := sk 4 _ (by decide) k4; have j6 := sk 6 _ (by decide) k6; have j7 := sk 7 _ (by decide) k7; have j8 := sk 8 _ (by decide) k8; have jf : ∀ i, wB.frozen? ⟨wr.heap.size, i, none⟩ = false := (fun i => (sf i).trans (kf i)); have hlt2 := Nat.lt_of_lt_of_le hlt1 ssz; have HW2 := Lib.hid (HW1.out.trans (sb _ hsz)); have HR2 := Lib.hid (HR1.out.trans (sb _ (Nat.le_refl _))); have HSh := Lib.hid sh; have HNb := Lib.hid nb; clear hbB sk sf sb sh nb))
          | (go_at_call 18; ((with_reducible refine (HE.out _ (HW2.out.setCell (by omega) _)).mono ?_); rintro e wE ⟨Ae', ce', rfl, le, me, ne, hbE, -⟩; obtain ⟨s6, sk, sf, ssz2, -, sh2, sb⟩ := after_set hbE j6; have i0 := sk 0 _ (by decide) j0; have i1 := sk 1 _ (by decide) j1; have i2 := sk 2 _ (by decide) j2; have i3 := sk 3 _ (by decide) j3; have i4 := sk 4 _ (by decide) j4; have i5 := sk 5 _ (by decide) s5; have i7 := sk 7 _ (by decide) j7; have i8 := sk 8 _ (by decide) j8; have if_ : ∀ i, wE.frozen? ⟨wr.heap.size, i, none⟩ = false := (fun i => (sf i).trans (jf i)); have hlt3 := Nat.lt_of_lt_of_le hlt2 ssz2; have HW3 := Lib.hid (HW2.out.trans (sb _ hsz)); have HR3 := Lib.hid (HR2.out.trans (sb _ (Nat.le_refl _))); have HSh2 := Lib.hid sh2; have HNe := Lib.hid ne; clear hbE sk sf sb sh2 ne))
          | (at_builtin; refine wpList_pushK rfl (.tmp 29) (.tmp 31) _ rfl 120 Tryz.underlying22 elem_ins (by decide) _ _ _ rfl (HO.out.later (HR3.out.setCell (Nat.le_refl _) _)) rfl (by simp [World.setCell]) rfl (In.one ⟨n, ⟨AL', cL', Ab', cb', Ae', ce'⟩⟩) (by simp only [List.length_map]; omega) (by simp only [List.length_map]; unfold maxLen; omega) ?_; intro v1 w1 ho1 hk1 hs1; have HO1 := Lib.hid ho1; have HK1 := Lib.hid hk1; clear ho1 hk1))
        go_roundw
        case rel =>
          have hWs : (wE.setCell ⟨wr.heap.size, 7, none⟩ (.slice Ae' (len n.els) ce')).heap.size = wE.heap.size := by simp [World.setCell]
          have hown : ∀ b, wr.heap.size ≤ b → u3.ownBlock ≠ some b := fun b hb e => by have := (HO.out.own_lt e).2; omega
          rw [hWs] at hs1
          have hE1 : ∀ b, wr.heap.size < b → b < wE.heap.size → w1.heap[b]? = wE.heap[b]? := fun b h1 h2 => (HK1.out b (by rw [hWs]; exact h2) (hown b (by omega))).1.trans (Below.heap_setCell _ _ _ _ (by simp; omega))
          have hB1 : ∀ b, wr.heap.size < b → b < wB.heap.size → w1.heap[b]? = wB.heap[b]? := fun b h1 h2 => (hE1 b h1 (by omega)).trans (HSh2.out b h2 (by omega))
          have hL1 : ∀ b, wr.heap.size < b → b < wL.heap.size → w1.heap[b]? = wL.heap[b]? := fun b h1 h2 => (hB1 b h1 (by omega)).trans (HSh.out b h2 (by omega))
          have hin : ∀ b, wr.heap.size < b → b < wE.heap.size → CpS w.heap.size w1 v1 b := fun b h1 h2 => ⟨by omega, by omega, (HK1.out b (by rw [hWs]; exact h2) (hown b (by omega))).2⟩
          have hOL : OwnK (wr.heap.size + 1) (wr.alloc (.cells (insC n p) 49)) wL 3 1 (.slice AL' n.L.length cL') (ones (n64s n.L)) := by have := HOL.out; simpa [insC] using this
          refine ⟨j + 1, ins ++ [⟨n, ⟨AL', cL', Ab', cb', Ae', ce'⟩⟩], by omega, by go_num, by rw [List.map_append, HIns.out, List.take_add_one, HN.out]; rfl, by rw [List.map_append]; exact HO1.out, fun x hx => ?_⟩
          rcases List.mem_append.1 hx with hx | hx
          · refine (HNew.out x hx).move (agr_of_heap fun b hb => ?_) (fun b hb => ⟨hb.1, by have := hb.2.1; omega, (HK1.out b (by rw [hWs]; have := hb.2.1; omega) hb.2.2).2⟩) (by omega)
            exact (HK1.out b (by rw [hWs]; have := hb.2.1; omega) hb.2.2).1.trans ((HR3.out.setCell (Nat.le_refl _) _).block b hb.2.1)
          · simp at hx
            subst hx
            intro w' ha
            have hnum := HOk.out.num
            refine ⟨⟨hnum.op, hnum.a, hnum.b, hnum.v, hnum.t, hnum.L, hlL, hmL, ?_, lb, mb, le, me⟩, ?_, ?_⟩
            · have hS := hOL.newS (S := fun b => wr.heap.size < b ∧ b < wL.heap.size) (fun g hg => by have := hOL.own_lt hg; omega)
              exact (hS w' (fun b o hb => (ha b o (hin b hb.1 (by omega))).trans (World.cell?_of_block (hL1 b hb.1 hb.2)))).more (by omega)
            · exact (HNb.out w' (fun b o hb => by
                have h1 : wL.heap.size ≤ b := by have := hb.1; simpa [World.setCell] using this
                exact (ha b o (hin b (by omega) (by have := hb.2; omega))).trans (World.cell?_of_block (hB1 b (by omega) hb.2)))).more (by omega)
            · exact (HNe.out w' (fun b o hb => by
                have h1 : wB.heap.size ≤ b := by have := hb.1; simpa [World.setCell] using this
                exact (ha b o (hin b (by omega) hb.2)).trans (World.cell?_of_block (hE1 b (by omega) hb.2)))).more (by omega)
        case measure => simp [intOf]; omega
      · have hT := List.take_of_length_le (l := nds f) (i := j) (by unfold len at *; omega)
        rw [hT] at hins
        obtain ⟨A', c', hv, hc1, hc2, hrow⟩ := ho.formB (by omega)
        have hlen : ins.length = len f := by have := congrArg List.length hins; rw [List.length_map] at this; exact this
        rw [List.length_map, hlen] at hv hc1
        have HV := Lib.hid hv
        have HO := Lib.hid ho
        have HF : Hid (NewF (Win w.heap.size wr) wr wr.heap.size A' f) := Lib.hid (fun w' ha hne => by
          obtain ⟨g, hg, hA, h1, h2, hc⟩ := hrow (fun e => hne (by
            have := congrArg List.length e
            rw [List.length_map, List.length_nil, hlen] at this
            exact len_zero this))
          refine ⟨g, 0, hA, RdF.mk fun i nd hi => ?_⟩
          rw [← hins, List.getElem?_map] at hi
          obtain ⟨x, hx, rfl⟩ := Option.map_eq_some_iff.1 hi
          refine ⟨x.p, h2, fun q hq => ?_, hnew x (List.mem_of_getElem? hx) w' (fun b o hb => ha b o ⟨hb.1, hb.2.1⟩)⟩
          rw [Nat.zero_add, ha g _ ⟨h1, h2⟩, hc i x.cells (by rw [List.getElem?_map, hx]; rfl) q hq]
          simp)
        have HG : Hid (len f ≠ 0 → ∃ g, A' = some ⟨g, 0, none⟩ ∧ w.heap.size ≤ g ∧ g < wr.heap.size) := Lib.hid (fun hne => by
          obtain ⟨g, -, hA, h1, h2, -⟩ := hrow (fun e => hne (by
            have := congrArg List.length e
            rw [List.length_map, List.length_nil, hlen] at this
            exact this))
          exact ⟨g, hA, h1, h2⟩)
        subst hv
        clear hins hnew hrow ho hT hil HV
        go_wp2_with fail
        go_ret
        exact ⟨A', c', rfl, hc1, hc2, HF.out, HO.out.below, HG.out⟩
end Go.Proofs.YtbhniddgkdldlaaGreatDoor
