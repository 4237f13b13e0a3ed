/- grommetlaw03.NumStays returns true for every input. -/
import Derived.Test.YtdenmbigdklhkaaDoorNumI
import Derived.Test.YtdenmbigdklhkaaDoorOwn
namespace Go.Proofs.YtdenmbigdklhkaaDoor
open Go.RowKit

theorem u64s_one (zs : List Int) : ∀ u ∈ u64s zs, u.oneCell' = true := by
  intro u hu
  simp only [u64s, List.mem_map] at hu
  obtain ⟨b, _, rfl⟩ := hu
  rfl
theorem elem_u64 : Elem Tryd.prog 28 8 := Elem.mk_ (z := .int .u64 0) (by kernel_rfl) rfl

/-- num.Eval at whatever row: it returns, and leaves memory alone. -/
theorem Eval_tot (op : Int) (A : Option Addr) (c : Nat) (zs : List Int) (w : World) (h0 : -9223372036854775808 ≤ op) (h1 : op ≤ 9223372036854775807)
    (hs : Sl w w.heap.size A (u64s zs)) (hc : zs.length ≤ c) (hx : c ≤ maxLen) (hz : ∀ z ∈ zs, 0 ≤ z ∧ z < 18446744073709551616) (hT : TabT w) :
    Calls Tryd.prog 13 #[.int .i64 op, .slice A zs.length c] w fun e w' => (∃ r, e = .returned r) ∧ ∃ nq, w' = w.drewN nq := by
  by_cases hn : Num.many op = 0 ∨ (zs.length : Int) ≠ Num.many op
  · exact (Eval_none op A zs.length c w h0 h1 hn).mono fun e w' ⟨h1, h2⟩ => ⟨⟨_, h1⟩, h2⟩
  have hn0 : Num.many op ≠ 0 := fun h => hn (.inl h)
  have hl : (zs.length : Int) = Num.many op := Classical.byContradiction fun h => hn (.inr h)
  cases hf : fitB (Num.bitsOf op) zs with
  | false => exact (Eval_unfit op A c zs w h0 h1 hn0 hl hs hc hx hz hf).mono fun e w' ⟨h1, h2⟩ => ⟨⟨_, h1⟩, h2⟩
  | true =>
    have hf' : ∀ z ∈ zs, z < 2 ^ Num.bitsOf op := fun z hz => by
      have := List.all_eq_true.1 hf z hz
      simpa using this
    rcases many_cases op with h | h | h
    · rw [h] at hl
      match zs, hl with
      | [a], _ => exact (Eval_one op a A c w h0 h1 h hs hc hx ⟨(hz a (by simp)).1, hf' a (by simp)⟩ hT).mono fun e w' ⟨h1, h2⟩ => ⟨⟨_, h1⟩, h2⟩
      | [], hl => simp at hl
      | _ :: _ :: _, hl => simp at hl; omega
    · rw [h] at hl
      match zs, hl with
      | [a, b], _ => exact (Eval_two op a b A c w h0 h1 h hs hc hx ⟨(hz a (by simp)).1, hf' a (by simp)⟩ ⟨(hz b (by simp)).1, hf' b (by simp)⟩).mono fun e w' ⟨h1, h2⟩ => ⟨⟨_, h1⟩, h2⟩
      | [], hl => simp at hl
      | [_], hl => simp at hl
      | _ :: _ :: _ :: _, hl => simp at hl; omega
    · exact absurd h hn0

set_option maxHeartbeats 2000000 in
set_option maxRecDepth 100000 in
theorem walk_NumStays (op : Int) (A : Option Addr) (c : Nat) (zs : List Int) (w : World) (ho : (Lit.int .i64 op).wf = true) (hs : Sl w w.heap.size A (zs.map (Value.int .u64))) (hc : zs.length ≤ c) (hm : c ≤ maxLen) (hf : ∀ n ∈ zs, (Lit.int .u64 n).wf = true) (hT : TabT w) :
    Calls Tryd.prog 8 #[.int .i64 op, .slice A zs.length c] w fun e w' => e = .returned (.bool true) ∧ Below w.heap.size w w' := by
  obtain ⟨o0, o1⟩ := bounds_i64 ho
  have hz : ∀ z ∈ zs, 0 ≤ z ∧ z < 18446744073709551616 := fun z hz => by have := bounds_u64 (hf z hz); omega
  replace hs : Sl w w.heap.size A (u64s zs) := hs
  clear ho hf
  have hm' := hm
  unfold maxLen at hm'
  by_cases hbig : 100 < zs.length
  · go_enter Tryd.func8, Tryd.ntmps8
    go_wp2_with fail
    with_reducible refine (up_any _).mono ?_
    rintro e w1 ⟨rfl, hb1⟩
    go_wp2
    go_ret
    exact ⟨rfl, hb1⟩
  · have HZ := Lib.hid hz
    clear hz
    go_enter Tryd.func8, Tryd.ntmps8
    go_wp2_with fail
    with_reducible refine (up_any _).mono ?_
    rintro e w1 ⟨rfl, hb1⟩
    have hs1 := hs.below hb1
    have hemp := Own.empty w1 28
    have hs2 := hs1.below ((Below.refl _ _).alloc hb1.size (.cells #[] 28))
    go_wp2_with (at_builtin; refine wpList_cat rfl _ _ _ rfl _ 8 Tryd.underlying27 elem_u64 (by decide) _ _ _ _ _ _ A zs.length c (u64s zs) rfl hemp rfl hs2 (by simp) (u64s_one _) (by simp; omega) ?_; intro v2 w2 hown2)
    rw [List.nil_append] at hown2
    obtain ⟨A2, c2, hv2, hc21, hc22, hsl2⟩ := hown2.form
    rw [u64s_length] at hv2 hc21
    subst hv2
    have hb2 := hb1.trans (hown2.below.mono hb1.size)
    have hs3 := hs.below hb2
    have hT2 := hT.below hb2
    have HE := Lib.hid (Eval_tot op A2 c2 zs w2 o0 o1 hsl2 hc21 hc22 HZ.out hT2)
    clear hown2 hs1 hs2 hemp hT2 hT
    go_wp2_with fail
    with_reducible refine HE.out.mono ?_
    rintro e w3 ⟨⟨r3, rfl⟩, nq, hw3⟩
    have hb3 : Below w2.heap.size w2 w3 := by rw [hw3]; exact below_drewN (Below.refl _ _) _
    have hsA := hs3.below (hb3.mono hb2.size)
    have hsB := hsl2.below hb3
    have hbf := hb2.trans (hb3.mono hb2.size)
    clear hw3 HE hb3 hs3 hsl2 hb2 hb1 hs
    by_cases hne : zs = []
    · subst hne
      simp only [List.length_nil]
      go_wp2
      refine wp_loop_rounds 1 ?_
      rw [rounds_succ]
      go_wp2
      go_ret
      exact ⟨rfl, hbf⟩
    · have hun : u64s zs ≠ [] := by intro h; apply hne; simpa [u64s] using h
      obtain ⟨b1, f1, rfl, hbb1, hcell1⟩ := hsA hun
      obtain ⟨b2, f2, rfl, hbb2, hcell2⟩ := hsB hun
      have H1 := Lib.hid (fun i (h : i < zs.length) => (hcell1 i (by simpa using h)).trans (u64s_get zs i h))
      have H2 := Lib.hid (fun i (h : i < zs.length) => (hcell2 i (by simpa using h)).trans (u64s_get zs i h))
      have hpos : 0 < zs.length := List.length_pos_iff.2 hne
      clear hcell1 hcell2 hne hun hsA hsB
      go_wp2
      go_loopw [7] (fun i wr => ∃ k m : Nat, k ≤ zs.length ∧ i = .int .i64 k ∧ wr = w3.drewN m) (fun i _ => zs.length - (intOf i).toNat)
      case atStart => exact ⟨0, 0, Nat.zero_le _, rfl, rfl⟩
      case round =>
        obtain ⟨k, m, hk, rfl, rfl⟩ := hrel
        by_cases hlt : k < zs.length
        · have h1 := H1.out k hlt
          have h2 := H2.out k hlt
          obtain ⟨x, hx⟩ : ∃ x, x = zs[k] := ⟨_, rfl⟩
          rw [← hx] at h1 h2
          have t : (x != x) = false := by simp
          clear hx
          go_wp2
          go_quiet (fail)
          rw [World.drewN_drewN]
          go_wp2
          go_roundw
          case rel => exact ⟨k + 1, _, by omega, by go_num, rfl⟩
          case measure => simp [intOf]; omega
        · have hk' : k = zs.length := by omega
          subst hk'
          go_wp2
          go_ret
          exact ⟨rfl, below_drewN hbf _⟩

end Go.Proofs.YtdenmbigdklhkaaDoor
