/- The walk of ExprStays: it returns true, whatever the input; nothing that was there changes. -/
import Derived.Test.YtbhniddgkdldlaaGreatDoorExprUp
import Derived.Test.YtbhniddgkdldlaaGreatDoorTreeR10
import Derived.Test.YtbhniddgkdldlaaGreatDoorTreeA
import Derived.Test.YtbhniddgkdldlaaGreatDoorTreeCp0
import Derived.Test.YtbhniddgkdldlaaGreatDoorRegions
set_option linter.unusedVariables false
set_option linter.unusedSimpArgs false
namespace Go.Proofs.YtbhniddgkdldlaaGreatDoor
open Go.RowKit Trx

theorem light_of_wt (f : Fo) (h : wt f ≤ 1048576) : Light f := by
  induction f with
  | nil => trivial
  | cons op a b v t L body els he next h1 h2 h3 =>
    simp only [wt] at h
    have e1 := len_le_wt body
    have e2 := len_le_wt els
    exact ⟨⟨by unfold RB; omega, by unfold RB; omega, by unfold RB; omega⟩, h1 (by omega), h2 (by omega), h3 (by omega)⟩
theorem wt_lsh5 (f : Fo) (h : lsh f = true) : wt f ≤ 65 * cnt f := by
  induction f with
  | nil => simp [wt]
  | cons op a b v t L body els he next h1 h2 h3 =>
    simp only [lsh, Bool.and_eq_true, decide_eq_true_eq] at h
    have := h1 h.1.1.2
    have := h2 h.1.2
    have := h3 h.2
    simp only [wt, cnt]
    omega
theorem cnt_small5 (f : Fo) (h : wt f ≤ 1048576) : wrap64 (cnt f : Int) = (cnt f : Int) := by
  have := cnt_le_wt f
  unfold wrap64
  omega
/-- what was there stays, but for a row of bytes that is being filled. -/
structure Fill (g L : Nat) (w wr : World) : Prop where
  kx : Kx (fun b => b = g ∧ 0 < L) w wr
  cell : ∀ j, j < L → ∃ u, wr.cell? ⟨g, j, none⟩ = some u
  fr : ∀ j, j < L → wr.frozen? ⟨g, j, none⟩ = false
def FillR (g L : Nat) (w : World) (i : Value) (wr : World) : Prop := ∃ k : Nat, k ≤ L ∧ i = .int .i64 k ∧ Fill g L w wr
theorem Fill.next {g L : Nat} {w wr : World} (h : Fill g L w wr) {j : Nat} (hj : j < L) (u : Value) : Fill g L w (wr.setCell ⟨g, j, none⟩ u) := by
  refine ⟨h.kx.setCell (p := ⟨g, j, none⟩) (.inl ⟨rfl, by omega⟩) u, fun i hi => ?_, fun i hi => (World.frozen?_setCell _ _ _ _).trans (h.fr i hi)⟩
  by_cases e : i = j
  · subst e
    obtain ⟨x, hx⟩ := h.cell i hi
    exact ⟨u, World.cell?_setCell_same _ _ _ hx⟩
  · obtain ⟨x, hx⟩ := h.cell i hi
    exact ⟨x, (World.cell?_setCell_other _ _ _ _ (by intro h; injection h with _ h; omega)).trans hx⟩
/-- behind more memory and other stores. -/
theorem Fill.start {g L : Nat} {w w' : World} (hg : 0 < L → g < w.heap.size) (h1 : ∀ j, j < L → ∃ u, w.cell? ⟨g, j, none⟩ = some u) (h2 : ∀ j, j < L → w.frozen? ⟨g, j, none⟩ = false) (hb : Below w.heap.size w w') : Fill g L w' w' :=
  ⟨.refl_, fun j hj => (h1 j hj).imp fun u hu => (hb.cell (p := ⟨g, j, none⟩) (hg (by omega))).trans hu, fun j hj => (hb.frozen (p := ⟨g, j, none⟩) (hg (by omega))).trans (h2 j hj)⟩
theorem OwB.fill {w0 w : World} {v : Value} {bs : List UInt8} (h : OwB w0 w v bs) : ∃ A c g, v = .slice A bs.length c ∧ bs.length ≤ c ∧ c ≤ maxLen ∧ Sl w w.heap.size A (u8s bs) ∧ (0 < bs.length → A = some ⟨g, 0, none⟩) ∧ w0.heap.size ≤ g ∧ (0 < bs.length → g < w.heap.size) ∧
    (∀ j, j < bs.length → ∃ u, w.cell? ⟨g, j, none⟩ = some u) ∧ ∀ j, j < bs.length → w.frozen? ⟨g, j, none⟩ = false := by
  obtain ⟨A, c, hv, h1, h2, h3⟩ := h.form2
  rcases Nat.eq_zero_or_pos bs.length with h0 | h0
  · exact ⟨A, c, w0.heap.size, hv, h1, h2, h3, fun h => by omega, Nat.le_refl _, fun h => by omega, fun j hj => by omega, fun j hj => by omega⟩
  · have hrow := h.row
    rcases h.row.2 with ⟨rfl, hn⟩ | ⟨g, cap, cur, rfl, hg, hcur, hrest⟩
    · have hz : bs.length = 0 := by simpa using hn
      omega
    · simp only [Value.slice.injEq] at hv
      obtain ⟨rfl, hl, rfl⟩ := hv
      have hlt : g < w.heap.size := by
        rcases Nat.lt_or_ge g w.heap.size with h1 | h1
        · exact h1
        · rw [Array.getElem?_eq_none h1] at hcur; cases hcur
      refine ⟨_, cap, g, by rw [hl], h1, h2, h3, fun _ => rfl, hg, fun _ => hlt, fun j hj => ?_, fun j hj => hrow.frozenAt j⟩
      have hlen : ((ones (u8s bs)).flatten).length = bs.length := by rw [flatten_len (ones_len _)]; simp
      have := hrow.cellAt j (by simp; omega)
      rw [List.getElem?_eq_getElem (by omega)] at this
      exact ⟨_, this⟩
theorem NewF.kx5 {lo g L : Nat} {w w' : World} {A : Option Addr} {f : Fo} (h : NewF (Win lo w) w w.heap.size A f) (hk : Kx (fun b => b = g ∧ 0 < L) w w') (hg : 0 < L → g < lo) : RdS w' w'.heap.size A f := by
  have := h.move (w' := w') (S' := Win lo w') (agr_of_heap fun b hb => hk.block b hb.2 (fun hm => by have := hb.1; have := hg hm.2; omega)) (fun b hb => ⟨hb.1, Nat.lt_of_lt_of_le hb.2 hk.size⟩) hk.size
  exact this.get

set_option maxHeartbeats 8000000 in
set_option maxRecDepth 100000 in
theorem walk_ExprStays (A : Option Addr) (c : Nat) (f : Fo) (Ab : Option Addr) (cb : Nat) (bs : List UInt8) (w : World) (hr : RdS w w.heap.size A f) (hl : len f ≤ c) (hm : c ≤ maxLen)
    (hsb : Sl w w.heap.size Ab (u8s bs)) (hlb : bs.length ≤ cb) (hmb : cb ≤ maxLen) (hwt : wt f ≤ 1048576) (hN : Nam w) (hE : Et w) :
    Calls Tryz.prog 7 #[.slice A (len f) c, .slice Ab bs.length cb] w fun e w' => e = .returned (.bool true) ∧ Below w.heap.size w w' := by
  have hml : len f ≤ maxLen := Nat.le_trans hl hm
  have HU := Lib.hid (up_any w hN hE)
  have HC := Lib.hid (fun w' (h : Below w.heap.size w w') => refCount_any _ f A c w' (Nat.le_refl _) ((hr.below h).more h.size) hml)
  rw [cnt_small5 f hwt] at HC
  have hcs : ((2000 : Int) < cnt f) ∨ (¬ (2000 : Int) < cnt f ∧ (3000 : Int) < bs.length) ∨ (¬ (2000 : Int) < cnt f ∧ ¬ (3000 : Int) < bs.length) := by omega
  rcases hcs with t1 | ⟨t1, t2⟩ | ⟨t1, t2⟩
  · go_enter Tryz.func7, Tryz.ntmps7
    go_wp2_with (first
      | (go_at_call 8; (with_reducible refine (HU.out).mono ?_); rintro e w1 ⟨rfl, hb1⟩; have HB1 := Lib.hid hb1; clear hb1)
      | (go_at_call 9; (with_reducible refine (HC.out _ HB1.out).mono ?_); rintro e w2 ⟨rfl, rfl⟩))
    go_ret
    exact ⟨rfl, HB1.out⟩
  · go_enter Tryz.func7, Tryz.ntmps7
    go_wp2_with (first
      | (go_at_call 8; (with_reducible refine (HU.out).mono ?_); rintro e w1 ⟨rfl, hb1⟩; have HB1 := Lib.hid hb1; clear hb1)
      | (go_at_call 9; (with_reducible refine (HC.out _ HB1.out).mono ?_); rintro e w2 ⟨rfl, rfl⟩))
    go_ret
    exact ⟨rfl, HB1.out⟩
  have hlw := len_le_wt f
  have HCp := Lib.hid (fun w' (h : Below w.heap.size w w') => Copy_any (cnt f) f A c w' (Nat.le_refl _) ((hr.below h).more h.size) (light_of_wt f hwt) (by unfold RB; omega))
  have HRl := Lib.hid (fun w' (h : Below w.heap.size w w') => (hr.below h).more h.size)
  have HSI := Lib.hid (fun w' A1 A2 c1 c2 f (h1 : RdS w' w'.heap.size A1 f) (h2 : RdS w' w'.heap.size A2 f) (hl : len f ≤ maxLen) => SameIns_same (cnt f) f A1 A2 c1 c2 w' (Nat.le_refl _) h1 h2 hl)
  have HSb := Lib.hid (fun w' (h : Below w.heap.size w w') => (hsb.below h).more h.size)
  have HML := Lib.hid hml
  obtain ⟨pf, hpf⟩ : ∃ pf, pf = enc f ++ [11] := ⟨_, rfl⟩
  have hlenF : may f = true → pf.length ≤ 100000000 := fun h => by have := enc_len f h hr.vok; rw [hpf]; simp; omega
  have HPt : may f = true → Hid (∀ w' A' c', Below w.heap.size w w' → RdS w' w'.heap.size A' f → Calls Tryz.prog 10 #[.slice A' (len f) c'] w' fun e w'' => ∃ v', e = .returned (.tuple #[v', .nilIface]) ∧ OwB w' w'' v' pf) := fun h1 => Lib.hid fun w' A' c' h hra => by
    rw [hpf]; exact Put_may f A' c' w' (hN.below h) hra hml h1 (by omega)
  have HPn : may f = false → Hid (∀ w' A' c', Below w.heap.size w w' → RdS w' w'.heap.size A' f → Calls Tryz.prog 10 #[.slice A' (len f) c'] w' fun e w'' => e = .returned (.tuple #[.slice none 0 0, .iface 32 (.int .i64 1)]) ∧ Below w'.heap.size w' w'') := fun h1 => Lib.hid fun w' A' c' h hra => Put_not f A' c' w' (hN.below h) hra hml h1
  have HG : Hid (∀ w' A' c', Below w.heap.size w w' → Sl w' w'.heap.size A' (u8s bs) → bs.length ≤ c' → c' ≤ maxLen → Calls Tryz.prog 13 #[.slice A' bs.length c', .int .i64 0] w' (GetP w' (rdE bs 0))) := Lib.hid fun w' A' c' h hs h1 h2 => by
    have := Get_any A' c' bs 0 w' (hN.below h) hs h1 h2 (Nat.zero_le _)
    rw [List.drop_zero] at this
    exact this
  have HLB := Lib.hid hlb
  have HMB := Lib.hid hmb
  clear hr hsb hN hE hl hm hlw hml hpf hlb hmb
  cases hmay : may f with
  | false =>
    have HP := HPn hmay
    clear HPt HPn hlenF hmay
    cases hrb : rdE bs 0 with
    | error er =>
      rw [hrb] at HG
      unfold GetP at HG
      have HCk : Hid (∀ w', Calls Tryz.prog 18 #[.slice none 0 0] w' fun e w'' => ∃ A' c', e = .returned (.slice A' 0 c') ∧ c' ≤ maxLen ∧ NewF (Win w'.heap.size w'') w'' w''.heap.size A' Fo.nil ∧ Below w'.heap.size w' w'') := Lib.hid fun w' => (Copy_any 0 Fo.nil none 0 w' (by simp [cnt]) RdS.nil_ trivial (by simp [len, nds, RB])).mono fun e w'' ⟨A', c', he, _, h2, h3, h4, _⟩ => ⟨A', c', he, h2, h3, h4⟩
      clear hrb
      go_enter Tryz.func7, Tryz.ntmps7
      go_wp2_with (first
        | (go_at_call 8; (with_reducible refine (HU.out).mono ?_); rintro e w1 ⟨rfl, hb1⟩; have HB1 := Lib.hid hb1; clear hb1)
        | (go_at_call 9; (with_reducible refine (HC.out _ HB1.out).mono ?_); rintro e w2 ⟨rfl, rfl⟩)
        | (go_at_call 18; (with_reducible refine (HCp.out _ HB1.out).mono ?_); rintro e w3 ⟨A8, c8, rfl, l8, m8, nf8, hb8, -⟩; have HB3 := Lib.hid (HB1.out.trans (hb8.mono HB1.out.size)); have HO3 := Lib.hid nf8.get; clear nf8 hb8)
        | (go_at_call 10; (with_reducible refine (HP.out _ _ c8 HB3.out HO3.out).mono ?_); rintro e w4 ⟨rfl, hb4⟩; have hcv : (convert 26 9 (.slice none 0 0)).run Tryz.prog w4 = .ok (.string ⟨#[]⟩) w4 := run_str_of (P := Tryz.prog) 26 9 5 Tryz.underlying26 Tryz.underlying5 Tryz.underlying9 (bs := []) (B := 0) (Sl.nil_) 0; have HB34 := Lib.hid hb4; clear hb4))
      refine wp_loop_rounds 1 ?_
      rw [rounds_succ]
      have hb3r : Below w3.heap.size w3 w4 := HB34.out
      have HBr := Lib.hid (HB3.out.trans (hb3r.mono HB3.out.size))
      have HOr := Lib.hid ((HO3.out.below hb3r).more hb3r.size)
      have HB3r := Lib.hid hb3r
      clear hb3r
      go_wp2_with (first
        | (go_at_call 10; (with_reducible refine (HP.out _ _ c8 HBr.out HOr.out).mono ?_); rintro e w6 ⟨rfl, hb6⟩; have HBr6 := Lib.hid hb6; have HB6 := Lib.hid (HBr.out.trans (hb6.mono HBr.out.size)); clear hb6)
        | (at_builtin; refine wpl_bytes rfl (.tmp 61) (.tmp 62) rfl bs rfl (show OwB w6 _ _ [] from OwnK.lit0' _ _ _ _ (by simp)) rfl (HSb.out _ (HB6.out.alloc HB6.out.size _)) rfl (by simp only [List.length_nil]; omega) ?_; intro v7 w7 ho7 hk7; rw [List.nil_append] at ho7; obtain ⟨A15, c15, g15, hv7, l15, m15, s15, hA15, hg15, hgl15, hce15, hfr15⟩ := ho7.fill; subst hv7; have HS15 := Lib.hid s15; have HB67 := Lib.hid ho7.below; have HB7 := Lib.hid (HB6.out.trans (ho7.below.mono HB6.out.size)); have HA15 := Lib.hid hA15; have HG15 := Lib.hid hg15; have HGL15 := Lib.hid hgl15; have HCE := Lib.hid hce15; have HFR := Lib.hid hfr15; clear ho7 hk7 s15 hA15 hg15 hgl15 hce15 hfr15)
        | (go_at_call 13; (with_reducible refine (HG.out _ _ _ HB7.out HS15.out l15 m15).mono ?_); rintro e w8 ⟨v18, rfl, ⟨sb18, so18, rfl, -, -⟩, hb8⟩; have HB78 := Lib.hid hb8; have HB8 := Lib.hid (HB7.out.trans (hb8.mono HB7.out.size)); have HN16 : Hid (NewF (Win w7.heap.size w8) w8 w8.heap.size none Fo.nil) := Lib.hid NewF.none_; clear hb8)
        | (go_at_call 18; (with_reducible refine (HCk.out _).mono ?_); rintro e w9 ⟨A19, c19, rfl, m19, nf19, hb9⟩; have HB89 := Lib.hid hb9; have HB9 := Lib.hid (HB8.out.trans (hb9.mono HB8.out.size)); have HN19 := Lib.hid nf19; clear nf19 hb9))
      have HF15 := Lib.hid (Fill.start HGL15.out HCE.out HFR.out (HB78.out.trans (HB89.out.mono HB78.out.size)))
      go_loopw [20] (fun i wr2 => FillR g15 bs.length w9 i wr2) (fun i _ => bs.length - (intOf i).toNat)
      case atStart => exact ⟨0, Nat.zero_le _, rfl, HF15.out⟩
      case round =>
        obtain ⟨j2, hj2, rfl, hfi2⟩ := hrel
        by_cases hlt2 : j2 < bs.length
        · obtain ⟨u2, hcell2⟩ := hfi2.cell j2 hlt2
          have hfr2 := hfi2.fr j2 hlt2
          have HNx2 := Lib.hid (hfi2.next hlt2 (.int .u8 1))
          have hA15 := HA15.out (by omega)
          subst hA15
          have hgb2 := World.block_lt_of_cell? _ _ hcell2
          have lj2 : (j2 : Int) < (bs.length : Int) := by omega
          clear hfi2
          go_wp2_with fail
          go_roundw
          case rel =>
            have hfin : FillR g15 bs.length w9 (.int .i64 ((j2 : Int) + 1)) (wr.setCell ⟨g15, j2, none⟩ (.int .u8 1)) := ⟨j2 + 1, by omega, by simp, HNx2.out⟩
            first | exact hfin | ((repeat apply Exists.intro); exact ⟨hfin, rfl⟩)
          case measure => simp [intOf]; omega
        · have nl2 : ¬ ((j2 : Int) < (bs.length : Int)) := by omega
          have h15 : 0 < bs.length → g15 < w7.heap.size := HGL15.out
          have hb6x : Below w6.heap.size w6 wr := (HB67.out.trans ((HB78.out.trans (HB89.out.mono HB78.out.size)).mono HB67.out.size)).trans (hfi2.kx.below (by have := HB67.out.size; have := HB78.out.size; have := HB89.out.size; omega) (fun b hb => by rw [hb.1]; exact HG15.out))
          have hk8x : Kx (fun b => b = g15 ∧ 0 < bs.length) w8 wr := (Kx.of_below HB89.out).trans hfi2.kx
          have HX := Lib.hid (HN16.out.kx5 hk8x h15)
          have HKp := Lib.hid (HN19.out.kx5 hfi2.kx (fun h => by have := h15 h; have := HB78.out.size; omega))
          have HBx := Lib.hid (HB6.out.trans (hb6x.mono HB6.out.size))
          have HB6x := Lib.hid hb6x
          clear hfi2 hb6x hk8x
          go_wp2_with (first | (go_at_call 13; (with_reducible refine (HG.out _ _ _ HBx.out (HSb.out _ HBx.out) HLB.out HMB.out).mono ?_); rintro e w10 ⟨v23, rfl, ⟨sb23, so23, rfl, -, -⟩, hb10⟩; have HY : Hid (RdS w10 w10.heap.size none Fo.nil) := Lib.hid RdS.nil_; have HBx10 := Lib.hid hb10; have HB10 := Lib.hid (HBx.out.trans (hb10.mono HBx.out.size)); clear hb10))
          have h6t := HB6x.out.trans (HBx10.out.mono HB6x.out.size)
          have h3t := HB3r.out.trans ((HBr6.out.trans (h6t.mono HBr6.out.size)).mono HB3r.out.size)
          have HOf := Lib.hid (fun w' (h : Below w10.heap.size w10 w') => ((HO3.out.below (h3t.trans (h.mono h3t.size))).more (Nat.le_trans h3t.size h.size)))
          have HLf := Lib.hid (fun w' (h : Below w10.heap.size w10 w') => HRl.out w' (HB10.out.trans (h.mono HB10.out.size)))
          have HXf := Lib.hid (fun w' (h : Below w10.heap.size w10 w') => (((HX.out.below HBx10.out).more HBx10.out.size).below h).more h.size)
          have HKf := Lib.hid (fun w' (h : Below w10.heap.size w10 w') => (((HKp.out.below HBx10.out).more HBx10.out.size).below h).more h.size)
          have HYf := Lib.hid (fun w' (h : Below w10.heap.size w10 w') => (HY.out.below h).more h.size)
          have HCv : Hid (∀ w', Below w10.heap.size w10 w' → (convert 26 9 (.slice none 0 0)).run Tryz.prog w' = .ok (.string ⟨#[]⟩) w') := Lib.hid fun w' h => run_str_of (P := Tryz.prog) 26 9 5 Tryz.underlying26 Tryz.underlying5 Tryz.underlying9 (bs := []) (B := 0) Sl.nil_ 0
          clear h6t h3t
          refine wp_region_held_drew (S := fun w' => (convert 26 9 (.slice none 0 0)).run Tryz.prog w' = .ok (.string ⟨#[]⟩) w') (by kernel_rfl) (HCv.out _ (Below.refl _ _).drew) (fun hHeld => ?_)
          refine region_take 0 (some 87) (v := ?_) rfl rfl (by kernel_rfl) (by kernel_rfl) (by kernel_rfl) (fun _ _ _ h => h) (by rfl) ?_ (by assumption) ?_
          rotate_left
          · (intro w hSw; (try dsimp only at hSw); go_simp; try with_reducible rfl)
          try simp only [Act.put, List.setIfInBounds_toArray, List.set_cons_zero, List.set_cons_succ]
          refine region_take 1 (some 88) (v := ?_) rfl rfl (by kernel_rfl) (by kernel_rfl) (by kernel_rfl) (fun _ _ _ h => h) (by rfl) ?_ (by assumption) ?_
          rotate_left
          · (intro w hSw; (try dsimp only at hSw); go_simp; try with_reducible rfl)
          try simp only [Act.put, List.setIfInBounds_toArray, List.set_cons_zero, List.set_cons_succ]
          refine region_take 2 (some 89) (v := ?_) rfl rfl (by kernel_rfl) (by kernel_rfl) (by kernel_rfl) (fun _ _ _ h => h) (by rfl) ?_ (by assumption) ?_
          rotate_left
          · (intro w hSw; (try dsimp only at hSw); go_simp; try with_reducible rfl)
          try simp only [Act.put, List.setIfInBounds_toArray, List.set_cons_zero, List.set_cons_succ]
          refine region_take 3 (some 90) (v := ?_) rfl rfl (by kernel_rfl) (by kernel_rfl) (by kernel_rfl) (fun _ _ _ h => h) (by rfl) ?_ (by assumption) ?_
          rotate_left
          · (intro w hSw; (try dsimp only at hSw); go_simp; try with_reducible rfl)
          try simp only [Act.put, List.setIfInBounds_toArray, List.set_cons_zero, List.set_cons_succ]
          refine wpAnyH_ready (rs := [4]) (by kernel_rfl) (by simp) ?_
          refine AllReadyH.cons rfl (fun K hK => ?_) AllReadyH.nil
          go_simp
          refine (HSI.out _ _ _ c8 c f (HOf.out _ (Below.refl _ _).drew) (HLf.out _ (Below.refl _ _).drew) HML.out).mono ?_
          rintro e w11 ⟨rfl, hb⟩
          have HBw11 : Hid (Below w10.heap.size w10 w11) := Lib.hid ((Below.refl w10.heap.size w10).drew.trans (hb.mono (Below.refl w10.heap.size w10).drew.size))
          clear hb hHeld
          go_wp2_with fail
          refine hK.out _ _ (HCv.out _ HBw11.out) (fun hHeld => ?_)
          clear hK K
          try simp only [Act.put, List.setIfInBounds_toArray, List.set_cons_zero, List.set_cons_succ]
          refine region_take 5 (some 92) (v := ?_) rfl rfl (by kernel_rfl) (by kernel_rfl) (by kernel_rfl) (fun _ _ _ h => h) (by rfl) ?_ (by assumption) ?_
          rotate_left
          · (intro w hSw; (try dsimp only at hSw); go_simp; try with_reducible rfl)
          try simp only [Act.put, List.setIfInBounds_toArray, List.set_cons_zero, List.set_cons_succ]
          refine region_take 6 (some 93) (v := ?_) rfl rfl (by kernel_rfl) (by kernel_rfl) (by kernel_rfl) (fun _ _ _ h => h) (by rfl) ?_ (by assumption) ?_
          rotate_left
          · (intro w hSw; (try dsimp only at hSw); go_simp; try with_reducible rfl)
          try simp only [Act.put, List.setIfInBounds_toArray, List.set_cons_zero, List.set_cons_succ]
          refine region_take 7 (some 94) (v := ?_) rfl rfl (by kernel_rfl) (by kernel_rfl) (by kernel_rfl) (fun _ _ _ h => h) (by rfl) ?_ (by assumption) ?_
          rotate_left
          · (intro w hSw; (try dsimp only at hSw); go_simp; try with_reducible rfl)
          try simp only [Act.put, List.setIfInBounds_toArray, List.set_cons_zero, List.set_cons_succ]
          refine region_take 8 (some 95) (v := ?_) rfl rfl (by kernel_rfl) (by kernel_rfl) (by kernel_rfl) (fun _ _ _ h => h) (by rfl) ?_ (by assumption) ?_
          rotate_left
          · (intro w hSw; (try dsimp only at hSw); go_simp; try with_reducible rfl)
          try simp only [Act.put, List.setIfInBounds_toArray, List.set_cons_zero, List.set_cons_succ]
          refine region_take 9 (some 96) (v := ?_) rfl rfl (by kernel_rfl) (by kernel_rfl) (by kernel_rfl) (fun _ _ _ h => h) (by rfl) ?_ (by assumption) ?_
          rotate_left
          · (intro w hSw; (try dsimp only at hSw); go_simp; try with_reducible rfl)
          try simp only [Act.put, List.setIfInBounds_toArray, List.set_cons_zero, List.set_cons_succ]
          refine region_take 10 (some 97) (v := ?_) rfl rfl (by kernel_rfl) (by kernel_rfl) (by kernel_rfl) (fun _ _ _ h => h) (by rfl) ?_ (by assumption) ?_
          rotate_left
          · (intro w hSw; (try dsimp only at hSw); go_simp; try with_reducible rfl)
          try simp only [Act.put, List.setIfInBounds_toArray, List.set_cons_zero, List.set_cons_succ]
          refine region_take 11 (some 98) (v := ?_) rfl rfl (by kernel_rfl) (by kernel_rfl) (by kernel_rfl) (fun _ _ _ h => h) (by rfl) ?_ (by assumption) ?_
          rotate_left
          · (intro w hSw; (try dsimp only at hSw); go_simp; try with_reducible rfl)
          try simp only [Act.put, List.setIfInBounds_toArray, List.set_cons_zero, List.set_cons_succ]
          refine region_take 12 (some 99) (v := ?_) rfl rfl (by kernel_rfl) (by kernel_rfl) (by kernel_rfl) (fun _ _ _ h => h) (by rfl) ?_ (by assumption) ?_
          rotate_left
          · (intro w hSw; (try dsimp only at hSw); go_simp; try with_reducible rfl)
          try simp only [Act.put, List.setIfInBounds_toArray, List.set_cons_zero, List.set_cons_succ]
          refine region_take 13 (some 100) (v := ?_) rfl rfl (by kernel_rfl) (by kernel_rfl) (by kernel_rfl) (fun _ _ _ h => h) (by rfl) ?_ (by assumption) ?_
          rotate_left
          · (intro w hSw; (try dsimp only at hSw); go_simp; try with_reducible rfl)
          try simp only [Act.put, List.setIfInBounds_toArray, List.set_cons_zero, List.set_cons_succ]
          refine region_take 14 (some 101) (v := ?_) rfl rfl (by kernel_rfl) (by kernel_rfl) (by kernel_rfl) (fun _ _ _ h => h) (by rfl) ?_ (by assumption) ?_
          rotate_left
          · (intro w hSw; (try dsimp only at hSw); go_simp; try with_reducible rfl)
          try simp only [Act.put, List.setIfInBounds_toArray, List.set_cons_zero, List.set_cons_succ]
          refine region_take 15 (some 102) (v := ?_) rfl rfl (by kernel_rfl) (by kernel_rfl) (by kernel_rfl) (fun _ _ _ h => h) (by rfl) ?_ (by assumption) ?_
          rotate_left
          · (intro w hSw; (try dsimp only at hSw); go_simp; try with_reducible rfl)
          try simp only [Act.put, List.setIfInBounds_toArray, List.set_cons_zero, List.set_cons_succ]
          refine region_take 16 (some 103) (v := ?_) rfl rfl (by kernel_rfl) (by kernel_rfl) (by kernel_rfl) (fun _ _ _ h => h) (by rfl) ?_ (by assumption) ?_
          rotate_left
          · (intro w hSw; (try dsimp only at hSw); go_simp; try with_reducible rfl)
          try simp only [Act.put, List.setIfInBounds_toArray, List.set_cons_zero, List.set_cons_succ]
          refine region_take 17 (some 104) (v := ?_) rfl rfl (by kernel_rfl) (by kernel_rfl) (by kernel_rfl) (fun _ _ _ h => h) (by rfl) ?_ (by assumption) ?_
          rotate_left
          · (intro w hSw; (try dsimp only at hSw); go_simp; try with_reducible rfl)
          try simp only [Act.put, List.setIfInBounds_toArray, List.set_cons_zero, List.set_cons_succ]
          refine region_take 18 (some 105) (v := ?_) rfl rfl (by kernel_rfl) (by kernel_rfl) (by kernel_rfl) (fun _ _ _ h => h) (by rfl) ?_ (by assumption) ?_
          rotate_left
          · (intro w hSw; (try dsimp only at hSw); go_simp; try with_reducible rfl)
          try simp only [Act.put, List.setIfInBounds_toArray, List.set_cons_zero, List.set_cons_succ]
          refine region_take 19 (some 106) (v := ?_) rfl rfl (by kernel_rfl) (by kernel_rfl) (by kernel_rfl) (fun _ _ _ h => h) (by rfl) ?_ (by assumption) ?_
          rotate_left
          · (intro w hSw; (try dsimp only at hSw); go_simp; try with_reducible rfl)
          try simp only [Act.put, List.setIfInBounds_toArray, List.set_cons_zero, List.set_cons_succ]
          refine region_take 20 (some 107) (v := ?_) rfl rfl (by kernel_rfl) (by kernel_rfl) (by kernel_rfl) (fun _ _ _ h => h) (by rfl) ?_ (by assumption) ?_
          rotate_left
          · (intro w hSw; (try dsimp only at hSw); go_simp; try with_reducible rfl)
          try simp only [Act.put, List.setIfInBounds_toArray, List.set_cons_zero, List.set_cons_succ]
          refine region_take 21 (some 108) (v := ?_) rfl rfl (by kernel_rfl) (by kernel_rfl) (by kernel_rfl) (fun _ _ _ h => h) (by rfl) ?_ (by assumption) ?_
          rotate_left
          · (intro w hSw; (try dsimp only at hSw); go_simp; try with_reducible rfl)
          try simp only [Act.put, List.setIfInBounds_toArray, List.set_cons_zero, List.set_cons_succ]
          refine region_take 22 (some 109) (v := ?_) rfl rfl (by kernel_rfl) (by kernel_rfl) (by kernel_rfl) (fun _ _ _ h => h) (by rfl) ?_ (by assumption) ?_
          rotate_left
          · (intro w hSw; (try dsimp only at hSw); go_simp; try with_reducible rfl)
          try simp only [Act.put, List.setIfInBounds_toArray, List.set_cons_zero, List.set_cons_succ]
          refine region_take 23 (some 110) (v := ?_) rfl rfl (by kernel_rfl) (by kernel_rfl) (by kernel_rfl) (fun _ _ _ h => h) (by rfl) ?_ (by assumption) ?_
          rotate_left
          · (intro w hSw; (try dsimp only at hSw); go_simp; try with_reducible rfl)
          try simp only [Act.put, List.setIfInBounds_toArray, List.set_cons_zero, List.set_cons_succ]
          refine region_take 24 (some 111) (v := ?_) rfl rfl (by kernel_rfl) (by kernel_rfl) (by kernel_rfl) (fun _ _ _ h => h) (by rfl) ?_ (by assumption) ?_
          rotate_left
          · (intro w hSw; (try dsimp only at hSw); go_simp; try with_reducible rfl)
          try simp only [Act.put, List.setIfInBounds_toArray, List.set_cons_zero, List.set_cons_succ]
          refine region_take 25 (some 112) (v := ?_) rfl rfl (by kernel_rfl) (by kernel_rfl) (by kernel_rfl) (fun _ _ _ h => h) (by rfl) ?_ (by assumption) ?_
          rotate_left
          · (intro w hSw; (try dsimp only at hSw); go_simp; try with_reducible rfl)
          try simp only [Act.put, List.setIfInBounds_toArray, List.set_cons_zero, List.set_cons_succ]
          refine region_take 26 (some 113) (v := ?_) rfl rfl (by kernel_rfl) (by kernel_rfl) (by kernel_rfl) (fun _ _ _ h => h) (by rfl) ?_ (by assumption) ?_
          rotate_left
          · (intro w hSw; (try dsimp only at hSw); go_simp; try with_reducible rfl)
          try simp only [Act.put, List.setIfInBounds_toArray, List.set_cons_zero, List.set_cons_succ]
          refine region_take 27 (some 114) (v := ?_) rfl rfl (by kernel_rfl) (by kernel_rfl) (by kernel_rfl) (fun _ _ _ h => h) (by rfl) ?_ (by assumption) ?_
          rotate_left
          · (intro w hSw; (try dsimp only at hSw); go_simp; try with_reducible rfl)
          try simp only [Act.put, List.setIfInBounds_toArray, List.set_cons_zero, List.set_cons_succ]
          refine region_take 28 (some 115) (v := ?_) rfl rfl (by kernel_rfl) (by kernel_rfl) (by kernel_rfl) (fun _ _ _ h => h) (by rfl) ?_ (by assumption) ?_
          rotate_left
          · (intro w hSw; (try dsimp only at hSw); go_simp; try with_reducible rfl)
          try simp only [Act.put, List.setIfInBounds_toArray, List.set_cons_zero, List.set_cons_succ]
          refine wpAnyH_ready (rs := [29]) (by kernel_rfl) (by simp) ?_
          refine AllReadyH.cons rfl (fun K hK => ?_) AllReadyH.nil
          go_simp
          refine (HSI.out _ _ _ 0 c19 Fo.nil (HXf.out _ HBw11.out) (HKf.out _ HBw11.out) (Nat.zero_le _)).mono ?_
          rintro e w12 ⟨rfl, hb⟩
          have HBw12 : Hid (Below w10.heap.size w10 w12) := Lib.hid (HBw11.out.trans (hb.mono HBw11.out.size))
          clear hb hHeld
          go_wp2_with fail
          refine hK.out _ _ (HCv.out _ HBw12.out) (fun hHeld => ?_)
          clear hK K
          try simp only [Act.put, List.setIfInBounds_toArray, List.set_cons_zero, List.set_cons_succ]
          refine region_take 30 (some 117) (v := ?_) rfl rfl (by kernel_rfl) (by kernel_rfl) (by kernel_rfl) (fun _ _ _ h => h) (by rfl) ?_ (by assumption) ?_
          rotate_left
          · (intro w hSw; (try dsimp only at hSw); go_simp; try with_reducible rfl)
          try simp only [Act.put, List.setIfInBounds_toArray, List.set_cons_zero, List.set_cons_succ]
          refine region_take 31 (some 118) (v := ?_) rfl rfl (by kernel_rfl) (by kernel_rfl) (by kernel_rfl) (fun _ _ _ h => h) (by rfl) ?_ (by assumption) ?_
          rotate_left
          · (intro w hSw; (try dsimp only at hSw); go_simp; try with_reducible rfl)
          try simp only [Act.put, List.setIfInBounds_toArray, List.set_cons_zero, List.set_cons_succ]
          refine region_take 32 (some 119) (v := ?_) rfl rfl (by kernel_rfl) (by kernel_rfl) (by kernel_rfl) (fun _ _ _ h => h) (by rfl) ?_ (by assumption) ?_
          rotate_left
          · (intro w hSw; (try dsimp only at hSw); go_simp; try with_reducible rfl)
          try simp only [Act.put, List.setIfInBounds_toArray, List.set_cons_zero, List.set_cons_succ]
          refine region_take 33 (some 120) (v := ?_) rfl rfl (by kernel_rfl) (by kernel_rfl) (by kernel_rfl) (fun _ _ _ h => h) (by rfl) ?_ (by assumption) ?_
          rotate_left
          · (intro w hSw; (try dsimp only at hSw); go_simp; try with_reducible rfl)
          try simp only [Act.put, List.setIfInBounds_toArray, List.set_cons_zero, List.set_cons_succ]
          refine wpAnyH_ready (rs := [34]) (by kernel_rfl) (by simp) ?_
          refine AllReadyH.cons rfl (fun K hK => ?_) AllReadyH.nil
          go_simp
          refine (HSI.out _ _ _ 0 c19 Fo.nil (HYf.out _ HBw12.out) (HKf.out _ HBw12.out) (Nat.zero_le _)).mono ?_
          rintro e w13 ⟨rfl, hb⟩
          have HBw13 : Hid (Below w10.heap.size w10 w13) := Lib.hid (HBw12.out.trans (hb.mono HBw12.out.size))
          clear hb hHeld
          go_wp2_with fail
          refine hK.out _ _ (HCv.out _ HBw13.out) (fun hHeld => ?_)
          clear hK K
          try simp only [Act.put, List.setIfInBounds_toArray, List.set_cons_zero, List.set_cons_succ]
          refine region_take 35 (some 122) (v := ?_) rfl rfl (by kernel_rfl) (by kernel_rfl) (by kernel_rfl) (fun _ _ _ h => h) (by rfl) ?_ (by assumption) ?_
          rotate_left
          · (intro w hSw; (try dsimp only at hSw); go_simp; try with_reducible rfl)
          try simp only [Act.put, List.setIfInBounds_toArray, List.set_cons_zero, List.set_cons_succ]
          refine region_take 36 (some 4) (v := ?_) rfl rfl (by kernel_rfl) (by kernel_rfl) (by kernel_rfl) (fun _ _ _ h => h) (by rfl) ?_ (by assumption) ?_
          rotate_left
          · (intro w hSw; (try dsimp only at hSw); go_simp; try with_reducible rfl)
          try simp only [Act.put, List.setIfInBounds_toArray, List.set_cons_zero, List.set_cons_succ]
          refine wpAnyH_done (by kernel_rfl) ?_ _
          go_wp2_with fail
          go_ret
          exact ⟨rfl, HB10.out.trans (HBw13.out.mono HB10.out.size)⟩
    | ok r =>
      obtain ⟨k, l', p'⟩ := r
      obtain ⟨km, kl, kv, kc, kd, kp, -, kb⟩ := get_back hrb
      have kw := wt_lsh5 k kl
      have klw := len_le_wt k
      rw [hrb] at HG
      unfold GetP at HG
      have HCk := Lib.hid (fun w' A' c' (h : RdS w' w'.heap.size A' k) => Copy_any (cnt k) k A' c' w' (Nat.le_refl _) h (light_of_wt k (by omega)) (by unfold RB; omega))
      clear km kl kv kc kd kp kb kw klw hrb
      go_enter Tryz.func7, Tryz.ntmps7
      go_wp2_with (first
        | (go_at_call 8; (with_reducible refine (HU.out).mono ?_); rintro e w1 ⟨rfl, hb1⟩; have HB1 := Lib.hid hb1; clear hb1)
        | (go_at_call 9; (with_reducible refine (HC.out _ HB1.out).mono ?_); rintro e w2 ⟨rfl, rfl⟩)
        | (go_at_call 18; (with_reducible refine (HCp.out _ HB1.out).mono ?_); rintro e w3 ⟨A8, c8, rfl, l8, m8, nf8, hb8, -⟩; have HB3 := Lib.hid (HB1.out.trans (hb8.mono HB1.out.size)); have HO3 := Lib.hid nf8.get; clear nf8 hb8)
        | (go_at_call 10; (with_reducible refine (HP.out _ _ c8 HB3.out HO3.out).mono ?_); rintro e w4 ⟨rfl, hb4⟩; have hcv : (convert 26 9 (.slice none 0 0)).run Tryz.prog w4 = .ok (.string ⟨#[]⟩) w4 := run_str_of (P := Tryz.prog) 26 9 5 Tryz.underlying26 Tryz.underlying5 Tryz.underlying9 (bs := []) (B := 0) (Sl.nil_) 0; have HB34 := Lib.hid hb4; clear hb4))
      refine wp_loop_rounds 1 ?_
      rw [rounds_succ]
      have hb3r : Below w3.heap.size w3 w4 := HB34.out
      have HBr := Lib.hid (HB3.out.trans (hb3r.mono HB3.out.size))
      have HOr := Lib.hid ((HO3.out.below hb3r).more hb3r.size)
      have HB3r := Lib.hid hb3r
      clear hb3r
      go_wp2_with (first
        | (go_at_call 10; (with_reducible refine (HP.out _ _ c8 HBr.out HOr.out).mono ?_); rintro e w6 ⟨rfl, hb6⟩; have HBr6 := Lib.hid hb6; have HB6 := Lib.hid (HBr.out.trans (hb6.mono HBr.out.size)); clear hb6)
        | (at_builtin; refine wpl_bytes rfl (.tmp 61) (.tmp 62) rfl bs rfl (show OwB w6 _ _ [] from OwnK.lit0' _ _ _ _ (by simp)) rfl (HSb.out _ (HB6.out.alloc HB6.out.size _)) rfl (by simp only [List.length_nil]; omega) ?_; intro v7 w7 ho7 hk7; rw [List.nil_append] at ho7; obtain ⟨A15, c15, g15, hv7, l15, m15, s15, hA15, hg15, hgl15, hce15, hfr15⟩ := ho7.fill; subst hv7; have HS15 := Lib.hid s15; have HB67 := Lib.hid ho7.below; have HB7 := Lib.hid (HB6.out.trans (ho7.below.mono HB6.out.size)); have HA15 := Lib.hid hA15; have HG15 := Lib.hid hg15; have HGL15 := Lib.hid hgl15; have HCE := Lib.hid hce15; have HFR := Lib.hid hfr15; clear ho7 hk7 s15 hA15 hg15 hgl15 hce15 hfr15)
        | (go_at_call 13; (with_reducible refine (HG.out _ _ _ HB7.out HS15.out l15 m15).mono ?_); rintro e w8 ⟨A16, c16, rfl, l16, m16, nf16, hb8⟩; have HB78 := Lib.hid hb8; have HB8 := Lib.hid (HB7.out.trans (hb8.mono HB7.out.size)); have HN16 := Lib.hid nf16; clear nf16 hb8)
        | (go_at_call 18; (with_reducible refine (HCk.out _ _ c16 HN16.out.get).mono ?_); rintro e w9 ⟨A19, c19, rfl, l19, m19, nf19, hb9, -⟩; have HB89 := Lib.hid hb9; have HB9 := Lib.hid (HB8.out.trans (hb9.mono HB8.out.size)); have HN19 := Lib.hid nf19; clear nf19 hb9))
      have HF15 := Lib.hid (Fill.start HGL15.out HCE.out HFR.out (HB78.out.trans (HB89.out.mono HB78.out.size)))
      go_loopw [20] (fun i wr2 => FillR g15 bs.length w9 i wr2) (fun i _ => bs.length - (intOf i).toNat)
      case atStart => exact ⟨0, Nat.zero_le _, rfl, HF15.out⟩
      case round =>
        obtain ⟨j2, hj2, rfl, hfi2⟩ := hrel
        by_cases hlt2 : j2 < bs.length
        · obtain ⟨u2, hcell2⟩ := hfi2.cell j2 hlt2
          have hfr2 := hfi2.fr j2 hlt2
          have HNx2 := Lib.hid (hfi2.next hlt2 (.int .u8 1))
          have hA15 := HA15.out (by omega)
          subst hA15
          have hgb2 := World.block_lt_of_cell? _ _ hcell2
          have lj2 : (j2 : Int) < (bs.length : Int) := by omega
          clear hfi2
          go_wp2_with fail
          go_roundw
          case rel =>
            have hfin : FillR g15 bs.length w9 (.int .i64 ((j2 : Int) + 1)) (wr.setCell ⟨g15, j2, none⟩ (.int .u8 1)) := ⟨j2 + 1, by omega, by simp, HNx2.out⟩
            first | exact hfin | ((repeat apply Exists.intro); exact ⟨hfin, rfl⟩)
          case measure => simp [intOf]; omega
        · have nl2 : ¬ ((j2 : Int) < (bs.length : Int)) := by omega
          have h15 : 0 < bs.length → g15 < w7.heap.size := HGL15.out
          have hb6x : Below w6.heap.size w6 wr := (HB67.out.trans ((HB78.out.trans (HB89.out.mono HB78.out.size)).mono HB67.out.size)).trans (hfi2.kx.below (by have := HB67.out.size; have := HB78.out.size; have := HB89.out.size; omega) (fun b hb => by rw [hb.1]; exact HG15.out))
          have hk8x : Kx (fun b => b = g15 ∧ 0 < bs.length) w8 wr := (Kx.of_below HB89.out).trans hfi2.kx
          have HX := Lib.hid (HN16.out.kx5 hk8x h15)
          have HKp := Lib.hid (HN19.out.kx5 hfi2.kx (fun h => by have := h15 h; have := HB78.out.size; omega))
          have HBx := Lib.hid (HB6.out.trans (hb6x.mono HB6.out.size))
          have HB6x := Lib.hid hb6x
          clear hfi2 hb6x hk8x
          go_wp2_with (first | (go_at_call 13; (with_reducible refine (HG.out _ _ _ HBx.out (HSb.out _ HBx.out) HLB.out HMB.out).mono ?_); rintro e w10 ⟨A21, c21, rfl, l21, m21, nf21, hb10⟩; have HY := Lib.hid nf21.get; have HBx10 := Lib.hid hb10; have HB10 := Lib.hid (HBx.out.trans (hb10.mono HBx.out.size)); clear nf21 hb10))
          have h6t := HB6x.out.trans (HBx10.out.mono HB6x.out.size)
          have h3t := HB3r.out.trans ((HBr6.out.trans (h6t.mono HBr6.out.size)).mono HB3r.out.size)
          have HOf := Lib.hid (fun w' (h : Below w10.heap.size w10 w') => ((HO3.out.below (h3t.trans (h.mono h3t.size))).more (Nat.le_trans h3t.size h.size)))
          have HLf := Lib.hid (fun w' (h : Below w10.heap.size w10 w') => HRl.out w' (HB10.out.trans (h.mono HB10.out.size)))
          have HXf := Lib.hid (fun w' (h : Below w10.heap.size w10 w') => (((HX.out.below HBx10.out).more HBx10.out.size).below h).more h.size)
          have HKf := Lib.hid (fun w' (h : Below w10.heap.size w10 w') => (((HKp.out.below HBx10.out).more HBx10.out.size).below h).more h.size)
          have HYf := Lib.hid (fun w' (h : Below w10.heap.size w10 w') => (HY.out.below h).more h.size)
          have HCv : Hid (∀ w', Below w10.heap.size w10 w' → (convert 26 9 (.slice none 0 0)).run Tryz.prog w' = .ok (.string ⟨#[]⟩) w') := Lib.hid fun w' h => run_str_of (P := Tryz.prog) 26 9 5 Tryz.underlying26 Tryz.underlying5 Tryz.underlying9 (bs := []) (B := 0) Sl.nil_ 0
          clear h6t h3t
          refine wp_region_held_drew (S := fun w' => (convert 26 9 (.slice none 0 0)).run Tryz.prog w' = .ok (.string ⟨#[]⟩) w') (by kernel_rfl) (HCv.out _ (Below.refl _ _).drew) (fun hHeld => ?_)
          refine region_take 0 (some 87) (v := ?_) rfl rfl (by kernel_rfl) (by kernel_rfl) (by kernel_rfl) (fun _ _ _ h => h) (by rfl) ?_ (by assumption) ?_
          rotate_left
          · (intro w hSw; (try dsimp only at hSw); go_simp; try with_reducible rfl)
          try simp only [Act.put, List.setIfInBounds_toArray, List.set_cons_zero, List.set_cons_succ]
          refine region_take 1 (some 88) (v := ?_) rfl rfl (by kernel_rfl) (by kernel_rfl) (by kernel_rfl) (fun _ _ _ h => h) (by rfl) ?_ (by assumption) ?_
          rotate_left
          · (intro w hSw; (try dsimp only at hSw); go_simp; try with_reducible rfl)
          try simp only [Act.put, List.setIfInBounds_toArray, List.set_cons_zero, List.set_cons_succ]
          refine region_take 2 (some 89) (v := ?_) rfl rfl (by kernel_rfl) (by kernel_rfl) (by kernel_rfl) (fun _ _ _ h => h) (by rfl) ?_ (by assumption) ?_
          rotate_left
          · (intro w hSw; (try dsimp only at hSw); go_simp; try with_reducible rfl)
          try simp only [Act.put, List.setIfInBounds_toArray, List.set_cons_zero, List.set_cons_succ]
          refine region_take 3 (some 90) (v := ?_) rfl rfl (by kernel_rfl) (by kernel_rfl) (by kernel_rfl) (fun _ _ _ h => h) (by rfl) ?_ (by assumption) ?_
          rotate_left
          · (intro w hSw; (try dsimp only at hSw); go_simp; try with_reducible rfl)
          try simp only [Act.put, List.setIfInBounds_toArray, List.set_cons_zero, List.set_cons_succ]
          refine wpAnyH_ready (rs := [4]) (by kernel_rfl) (by simp) ?_
          refine AllReadyH.cons rfl (fun K hK => ?_) AllReadyH.nil
          go_simp
          refine (HSI.out _ _ _ c8 c f (HOf.out _ (Below.refl _ _).drew) (HLf.out _ (Below.refl _ _).drew) HML.out).mono ?_
          rintro e w11 ⟨rfl, hb⟩
          have HBw11 : Hid (Below w10.heap.size w10 w11) := Lib.hid ((Below.refl w10.heap.size w10).drew.trans (hb.mono (Below.refl w10.heap.size w10).drew.size))
          clear hb hHeld
          go_wp2_with fail
          refine hK.out _ _ (HCv.out _ HBw11.out) (fun hHeld => ?_)
          clear hK K
          try simp only [Act.put, List.setIfInBounds_toArray, List.set_cons_zero, List.set_cons_succ]
          refine region_take 5 (some 92) (v := ?_) rfl rfl (by kernel_rfl) (by kernel_rfl) (by kernel_rfl) (fun _ _ _ h => h) (by rfl) ?_ (by assumption) ?_
          rotate_left
          · (intro w hSw; (try dsimp only at hSw); go_simp; try with_reducible rfl)
          try simp only [Act.put, List.setIfInBounds_toArray, List.set_cons_zero, List.set_cons_succ]
          refine region_take 6 (some 93) (v := ?_) rfl rfl (by kernel_rfl) (by kernel_rfl) (by kernel_rfl) (fun _ _ _ h => h) (by rfl) ?_ (by assumption) ?_
          rotate_left
          · (intro w hSw; (try dsimp only at hSw); go_simp; try with_reducible rfl)
          try simp only [Act.put, List.setIfInBounds_toArray, List.set_cons_zero, List.set_cons_succ]
          refine region_take 7 (some 94) (v := ?_) rfl rfl (by kernel_rfl) (by kernel_rfl) (by kernel_rfl) (fun _ _ _ h => h) (by rfl) ?_ (by assumption) ?_
          rotate_left
          · (intro w hSw; (try dsimp only at hSw); go_simp; try with_reducible rfl)
          try simp only [Act.put, List.setIfInBounds_toArray, List.set_cons_zero, List.set_cons_succ]
          refine region_take 8 (some 95) (v := ?_) rfl rfl (by kernel_rfl) (by kernel_rfl) (by kernel_rfl) (fun _ _ _ h => h) (by rfl) ?_ (by assumption) ?_
          rotate_left
          · (intro w hSw; (try dsimp only at hSw); go_simp; try with_reducible rfl)
          try simp only [Act.put, List.setIfInBounds_toArray, List.set_cons_zero, List.set_cons_succ]
          refine region_take 9 (some 96) (v := ?_) rfl rfl (by kernel_rfl) (by kernel_rfl) (by kernel_rfl) (fun _ _ _ h => h) (by rfl) ?_ (by assumption) ?_
          rotate_left
          · (intro w hSw; (try dsimp only at hSw); go_simp; try with_reducible rfl)
          try simp only [Act.put, List.setIfInBounds_toArray, List.set_cons_zero, List.set_cons_succ]
          refine region_take 10 (some 97) (v := ?_) rfl rfl (by kernel_rfl) (by kernel_rfl) (by kernel_rfl) (fun _ _ _ h => h) (by rfl) ?_ (by assumption) ?_
          rotate_left
          · (intro w hSw; (try dsimp only at hSw); go_simp; try with_reducible rfl)
          try simp only [Act.put, List.setIfInBounds_toArray, List.set_cons_zero, List.set_cons_succ]
          refine region_take 11 (some 98) (v := ?_) rfl rfl (by kernel_rfl) (by kernel_rfl) (by kernel_rfl) (fun _ _ _ h => h) (by rfl) ?_ (by assumption) ?_
          rotate_left
          · (intro w hSw; (try dsimp only at hSw); go_simp; try with_reducible rfl)
          try simp only [Act.put, List.setIfInBounds_toArray, List.set_cons_zero, List.set_cons_succ]
          refine region_take 12 (some 99) (v := ?_) rfl rfl (by kernel_rfl) (by kernel_rfl) (by kernel_rfl) (fun _ _ _ h => h) (by rfl) ?_ (by assumption) ?_
          rotate_left
          · (intro w hSw; (try dsimp only at hSw); go_simp; try with_reducible rfl)
          try simp only [Act.put, List.setIfInBounds_toArray, List.set_cons_zero, List.set_cons_succ]
          refine region_take 13 (some 100) (v := ?_) rfl rfl (by kernel_rfl) (by kernel_rfl) (by kernel_rfl) (fun _ _ _ h => h) (by rfl) ?_ (by assumption) ?_
          rotate_left
          · (intro w hSw; (try dsimp only at hSw); go_simp; try with_reducible rfl)
          try simp only [Act.put, List.setIfInBounds_toArray, List.set_cons_zero, List.set_cons_succ]
          refine region_take 14 (some 101) (v := ?_) rfl rfl (by kernel_rfl) (by kernel_rfl) (by kernel_rfl) (fun _ _ _ h => h) (by rfl) ?_ (by assumption) ?_
          rotate_left
          · (intro w hSw; (try dsimp only at hSw); go_simp; try with_reducible rfl)
          try simp only [Act.put, List.setIfInBounds_toArray, List.set_cons_zero, List.set_cons_succ]
          refine region_take 15 (some 102) (v := ?_) rfl rfl (by kernel_rfl) (by kernel_rfl) (by kernel_rfl) (fun _ _ _ h => h) (by rfl) ?_ (by assumption) ?_
          rotate_left
          · (intro w hSw; (try dsimp only at hSw); go_simp; try with_reducible rfl)
          try simp only [Act.put, List.setIfInBounds_toArray, List.set_cons_zero, List.set_cons_succ]
          refine region_take 16 (some 103) (v := ?_) rfl rfl (by kernel_rfl) (by kernel_rfl) (by kernel_rfl) (fun _ _ _ h => h) (by rfl) ?_ (by assumption) ?_
          rotate_left
          · (intro w hSw; (try dsimp only at hSw); go_simp; try with_reducible rfl)
          try simp only [Act.put, List.setIfInBounds_toArray, List.set_cons_zero, List.set_cons_succ]
          refine region_take 17 (some 104) (v := ?_) rfl rfl (by kernel_rfl) (by kernel_rfl) (by kernel_rfl) (fun _ _ _ h => h) (by rfl) ?_ (by assumption) ?_
          rotate_left
          · (intro w hSw; (try dsimp only at hSw); go_simp; try with_reducible rfl)
          try simp only [Act.put, List.setIfInBounds_toArray, List.set_cons_zero, List.set_cons_succ]
          refine region_take 18 (some 105) (v := ?_) rfl rfl (by kernel_rfl) (by kernel_rfl) (by kernel_rfl) (fun _ _ _ h => h) (by rfl) ?_ (by assumption) ?_
          rotate_left
          · (intro w hSw; (try dsimp only at hSw); go_simp; try with_reducible rfl)
          try simp only [Act.put, List.setIfInBounds_toArray, List.set_cons_zero, List.set_cons_succ]
          refine region_take 19 (some 106) (v := ?_) rfl rfl (by kernel_rfl) (by kernel_rfl) (by kernel_rfl) (fun _ _ _ h => h) (by rfl) ?_ (by assumption) ?_
          rotate_left
          · (intro w hSw; (try dsimp only at hSw); go_simp; try with_reducible rfl)
          try simp only [Act.put, List.setIfInBounds_toArray, List.set_cons_zero, List.set_cons_succ]
          refine region_take 20 (some 107) (v := ?_) rfl rfl (by kernel_rfl) (by kernel_rfl) (by kernel_rfl) (fun _ _ _ h => h) (by rfl) ?_ (by assumption) ?_
          rotate_left
          · (intro w hSw; (try dsimp only at hSw); go_simp; try with_reducible rfl)
          try simp only [Act.put, List.setIfInBounds_toArray, List.set_cons_zero, List.set_cons_succ]
          refine region_take 21 (some 108) (v := ?_) rfl rfl (by kernel_rfl) (by kernel_rfl) (by kernel_rfl) (fun _ _ _ h => h) (by rfl) ?_ (by assumption) ?_
          rotate_left
          · (intro w hSw; (try dsimp only at hSw); go_simp; try with_reducible rfl)
          try simp only [Act.put, List.setIfInBounds_toArray, List.set_cons_zero, List.set_cons_succ]
          refine region_take 22 (some 109) (v := ?_) rfl rfl (by kernel_rfl) (by kernel_rfl) (by kernel_rfl) (fun _ _ _ h => h) (by rfl) ?_ (by assumption) ?_
          rotate_left
          · (intro w hSw; (try dsimp only at hSw); go_simp; try with_reducible rfl)
          try simp only [Act.put, List.setIfInBounds_toArray, List.set_cons_zero, List.set_cons_succ]
          refine region_take 23 (some 110) (v := ?_) rfl rfl (by kernel_rfl) (by kernel_rfl) (by kernel_rfl) (fun _ _ _ h => h) (by rfl) ?_ (by assumption) ?_
          rotate_left
          · (intro w hSw; (try dsimp only at hSw); go_simp; try with_reducible rfl)
          try simp only [Act.put, List.setIfInBounds_toArray, List.set_cons_zero, List.set_cons_succ]
          refine region_take 24 (some 111) (v := ?_) rfl rfl (by kernel_rfl) (by kernel_rfl) (by kernel_rfl) (fun _ _ _ h => h) (by rfl) ?_ (by assumption) ?_
          rotate_left
          · (intro w hSw; (try dsimp only at hSw); go_simp; try with_reducible rfl)
          try simp only [Act.put, List.setIfInBounds_toArray, List.set_cons_zero, List.set_cons_succ]
          refine region_take 25 (some 112) (v := ?_) rfl rfl (by kernel_rfl) (by kernel_rfl) (by kernel_rfl) (fun _ _ _ h => h) (by rfl) ?_ (by assumption) ?_
          rotate_left
          · (intro w hSw; (try dsimp only at hSw); go_simp; try with_reducible rfl)
          try simp only [Act.put, List.setIfInBounds_toArray, List.set_cons_zero, List.set_cons_succ]
          refine region_take 26 (some 113) (v := ?_) rfl rfl (by kernel_rfl) (by kernel_rfl) (by kernel_rfl) (fun _ _ _ h => h) (by rfl) ?_ (by assumption) ?_
          rotate_left
          · (intro w hSw; (try dsimp only at hSw); go_simp; try with_reducible rfl)
          try simp only [Act.put, List.setIfInBounds_toArray, List.set_cons_zero, List.set_cons_succ]
          refine region_take 27 (some 114) (v := ?_) rfl rfl (by kernel_rfl) (by kernel_rfl) (by kernel_rfl) (fun _ _ _ h => h) (by rfl) ?_ (by assumption) ?_
          rotate_left
          · (intro w hSw; (try dsimp only at hSw); go_simp; try with_reducible rfl)
          try simp only [Act.put, List.setIfInBounds_toArray, List.set_cons_zero, List.set_cons_succ]
          refine region_take 28 (some 115) (v := ?_) rfl rfl (by kernel_rfl) (by kernel_rfl) (by kernel_rfl) (fun _ _ _ h => h) (by rfl) ?_ (by assumption) ?_
          rotate_left
          · (intro w hSw; (try dsimp only at hSw); go_simp; try with_reducible rfl)
          try simp only [Act.put, List.setIfInBounds_toArray, List.set_cons_zero, List.set_cons_succ]
          refine wpAnyH_ready (rs := [29]) (by kernel_rfl) (by simp) ?_
          refine AllReadyH.cons rfl (fun K hK => ?_) AllReadyH.nil
          go_simp
          refine (HSI.out _ _ _ c16 c19 k (HXf.out _ HBw11.out) (HKf.out _ HBw11.out) (Nat.le_trans l16 m16)).mono ?_
          rintro e w12 ⟨rfl, hb⟩
          have HBw12 : Hid (Below w10.heap.size w10 w12) := Lib.hid (HBw11.out.trans (hb.mono HBw11.out.size))
          clear hb hHeld
          go_wp2_with fail
          refine hK.out _ _ (HCv.out _ HBw12.out) (fun hHeld => ?_)
          clear hK K
          try simp only [Act.put, List.setIfInBounds_toArray, List.set_cons_zero, List.set_cons_succ]
          refine region_take 30 (some 117) (v := ?_) rfl rfl (by kernel_rfl) (by kernel_rfl) (by kernel_rfl) (fun _ _ _ h => h) (by rfl) ?_ (by assumption) ?_
          rotate_left
          · (intro w hSw; (try dsimp only at hSw); go_simp; try with_reducible rfl)
          try simp only [Act.put, List.setIfInBounds_toArray, List.set_cons_zero, List.set_cons_succ]
          refine region_take 31 (some 118) (v := ?_) rfl rfl (by kernel_rfl) (by kernel_rfl) (by kernel_rfl) (fun _ _ _ h => h) (by rfl) ?_ (by assumption) ?_
          rotate_left
          · (intro w hSw; (try dsimp only at hSw); go_simp; try with_reducible rfl)
          try simp only [Act.put, List.setIfInBounds_toArray, List.set_cons_zero, List.set_cons_succ]
          refine region_take 32 (some 119) (v := ?_) rfl rfl (by kernel_rfl) (by kernel_rfl) (by kernel_rfl) (fun _ _ _ h => h) (by rfl) ?_ (by assumption) ?_
          rotate_left
          · (intro w hSw; (try dsimp only at hSw); go_simp; try with_reducible rfl)
          try simp only [Act.put, List.setIfInBounds_toArray, List.set_cons_zero, List.set_cons_succ]
          refine region_take 33 (some 120) (v := ?_) rfl rfl (by kernel_rfl) (by kernel_rfl) (by kernel_rfl) (fun _ _ _ h => h) (by rfl) ?_ (by assumption) ?_
          rotate_left
          · (intro w hSw; (try dsimp only at hSw); go_simp; try with_reducible rfl)
          try simp only [Act.put, List.setIfInBounds_toArray, List.set_cons_zero, List.set_cons_succ]
          refine wpAnyH_ready (rs := [34]) (by kernel_rfl) (by simp) ?_
          refine AllReadyH.cons rfl (fun K hK => ?_) AllReadyH.nil
          go_simp
          refine (HSI.out _ _ _ c21 c19 k (HYf.out _ HBw12.out) (HKf.out _ HBw12.out) (Nat.le_trans l16 m16)).mono ?_
          rintro e w13 ⟨rfl, hb⟩
          have HBw13 : Hid (Below w10.heap.size w10 w13) := Lib.hid (HBw12.out.trans (hb.mono HBw12.out.size))
          clear hb hHeld
          go_wp2_with fail
          refine hK.out _ _ (HCv.out _ HBw13.out) (fun hHeld => ?_)
          clear hK K
          try simp only [Act.put, List.setIfInBounds_toArray, List.set_cons_zero, List.set_cons_succ]
          refine region_take 35 (some 122) (v := ?_) rfl rfl (by kernel_rfl) (by kernel_rfl) (by kernel_rfl) (fun _ _ _ h => h) (by rfl) ?_ (by assumption) ?_
          rotate_left
          · (intro w hSw; (try dsimp only at hSw); go_simp; try with_reducible rfl)
          try simp only [Act.put, List.setIfInBounds_toArray, List.set_cons_zero, List.set_cons_succ]
          refine region_take 36 (some 4) (v := ?_) rfl rfl (by kernel_rfl) (by kernel_rfl) (by kernel_rfl) (fun _ _ _ h => h) (by rfl) ?_ (by assumption) ?_
          rotate_left
          · (intro w hSw; (try dsimp only at hSw); go_simp; try with_reducible rfl)
          try simp only [Act.put, List.setIfInBounds_toArray, List.set_cons_zero, List.set_cons_succ]
          refine wpAnyH_done (by kernel_rfl) ?_ _
          go_wp2_with fail
          go_ret
          exact ⟨rfl, HB10.out.trans (HBw13.out.mono HB10.out.size)⟩
  | true =>
    have HP := HPt hmay
    have hpl := hlenF hmay
    clear HPt HPn hlenF hmay
    cases hrb : rdE bs 0 with
    | error er =>
      rw [hrb] at HG
      unfold GetP at HG
      have HCk : Hid (∀ w', Calls Tryz.prog 18 #[.slice none 0 0] w' fun e w'' => ∃ A' c', e = .returned (.slice A' 0 c') ∧ c' ≤ maxLen ∧ NewF (Win w'.heap.size w'') w'' w''.heap.size A' Fo.nil ∧ Below w'.heap.size w' w'') := Lib.hid fun w' => (Copy_any 0 Fo.nil none 0 w' (by simp [cnt]) RdS.nil_ trivial (by simp [len, nds, RB])).mono fun e w'' ⟨A', c', he, _, h2, h3, h4, _⟩ => ⟨A', c', he, h2, h3, h4⟩
      clear hrb
      go_enter Tryz.func7, Tryz.ntmps7
      go_wp2_with (first
        | (go_at_call 8; (with_reducible refine (HU.out).mono ?_); rintro e w1 ⟨rfl, hb1⟩; have HB1 := Lib.hid hb1; clear hb1)
        | (go_at_call 9; (with_reducible refine (HC.out _ HB1.out).mono ?_); rintro e w2 ⟨rfl, rfl⟩)
        | (go_at_call 18; (with_reducible refine (HCp.out _ HB1.out).mono ?_); rintro e w3 ⟨A8, c8, rfl, l8, m8, nf8, hb8, -⟩; have HB3 := Lib.hid (HB1.out.trans (hb8.mono HB1.out.size)); have HO3 := Lib.hid nf8.get; clear nf8 hb8)
        | (go_at_call 10; (with_reducible refine (HP.out _ _ c8 HB3.out HO3.out).mono ?_); rintro e w4 ⟨v4, rfl, ho4⟩; obtain ⟨A9, c9, g9, hv4, l9, m9, s9, hA9, hg9, hgl9, hce9, hfr9⟩ := ho4.fill; subst hv4; have hcv : (convert 26 9 (.slice A9 pf.length c9)).run Tryz.prog w4 = .ok (.string ⟨pf.toArray⟩) w4 := run_str_of (P := Tryz.prog) 26 9 5 Tryz.underlying26 Tryz.underlying5 Tryz.underlying9 s9 c9; have HF9 := Lib.hid (Fill.start hgl9 hce9 hfr9 (Below.refl _ _)); have HB34 := Lib.hid ho4.below; have HA9 := Lib.hid hA9; have HG9 := Lib.hid hg9; have HGL9 := Lib.hid hgl9; clear ho4 s9 hA9 hg9 hgl9 hce9 hfr9))
      clear hcv
      go_loopw [12] (fun i wr => FillR g9 pf.length w4 i wr) (fun i _ => pf.length - (intOf i).toNat)
      case atStart => exact ⟨0, Nat.zero_le _, rfl, HF9.out⟩
      case round =>
        obtain ⟨j, hj, rfl, hfi⟩ := hrel
        by_cases hlt : j < pf.length
        · obtain ⟨u, hcell⟩ := hfi.cell j hlt
          have hfr := hfi.fr j hlt
          have HNx := Lib.hid (hfi.next hlt (.int .u8 9))
          have hA9 := HA9.out (by omega)
          subst hA9
          have hgb : g9 < wr.heap.size := World.block_lt_of_cell? _ _ hcell
          have lj : (j : Int) < (pf.length : Int) := by omega
          clear hfi
          go_wp2_with fail
          go_roundw
          case rel =>
            have hfin : FillR g9 pf.length w4 (.int .i64 ((j : Int) + 1)) (wr.setCell ⟨g9, j, none⟩ (.int .u8 9)) := ⟨j + 1, by omega, by simp, HNx.out⟩
            first | exact hfin | ((repeat apply Exists.intro); exact ⟨hfin, rfl⟩)
          case measure => simp [intOf]; omega
        · have nl : ¬ ((j : Int) < (pf.length : Int)) := by omega
          have hb3r : Below w3.heap.size w3 wr := HB34.out.trans (hfi.kx.below HB34.out.size (fun b hb => by rw [hb.1]; exact HG9.out))
          have HBr := Lib.hid (HB3.out.trans (hb3r.mono HB3.out.size))
          have HOr := Lib.hid ((HO3.out.below hb3r).more hb3r.size)
          have HB3r := Lib.hid hb3r
          clear hfi hb3r
          go_wp2_with (first
            | (go_at_call 10; (with_reducible refine (HP.out _ _ c8 HBr.out HOr.out).mono ?_); rintro e w6 ⟨v6, rfl, ho6⟩; obtain ⟨A13, c13, hv6, -, -, s13⟩ := ho6.form2; subst hv6; have HS13 := Lib.hid s13; have HBr6 := Lib.hid ho6.below; have HB6 := Lib.hid (HBr.out.trans (ho6.below.mono HBr.out.size)); clear ho6 s13)
            | (at_builtin; refine wpl_bytes rfl (.tmp 61) (.tmp 62) rfl bs rfl (show OwB w6 _ _ [] from OwnK.lit0' _ _ _ _ (by simp)) rfl (HSb.out _ (HB6.out.alloc HB6.out.size _)) rfl (by simp only [List.length_nil]; omega) ?_; intro v7 w7 ho7 hk7; rw [List.nil_append] at ho7; obtain ⟨A15, c15, g15, hv7, l15, m15, s15, hA15, hg15, hgl15, hce15, hfr15⟩ := ho7.fill; subst hv7; have HS15 := Lib.hid s15; have HB67 := Lib.hid ho7.below; have HB7 := Lib.hid (HB6.out.trans (ho7.below.mono HB6.out.size)); have HA15 := Lib.hid hA15; have HG15 := Lib.hid hg15; have HGL15 := Lib.hid hgl15; have HCE := Lib.hid hce15; have HFR := Lib.hid hfr15; clear ho7 hk7 s15 hA15 hg15 hgl15 hce15 hfr15)
            | (go_at_call 13; (with_reducible refine (HG.out _ _ _ HB7.out HS15.out l15 m15).mono ?_); rintro e w8 ⟨v18, rfl, ⟨sb18, so18, rfl, -, -⟩, hb8⟩; have HB78 := Lib.hid hb8; have HB8 := Lib.hid (HB7.out.trans (hb8.mono HB7.out.size)); have HN16 : Hid (NewF (Win w7.heap.size w8) w8 w8.heap.size none Fo.nil) := Lib.hid NewF.none_; clear hb8)
            | (go_at_call 18; (with_reducible refine (HCk.out _).mono ?_); rintro e w9 ⟨A19, c19, rfl, m19, nf19, hb9⟩; have HB89 := Lib.hid hb9; have HB9 := Lib.hid (HB8.out.trans (hb9.mono HB8.out.size)); have HN19 := Lib.hid nf19; clear nf19 hb9))
          have HF15 := Lib.hid (Fill.start HGL15.out HCE.out HFR.out (HB78.out.trans (HB89.out.mono HB78.out.size)))
          go_loopw [20] (fun i wr2 => FillR g15 bs.length w9 i wr2) (fun i _ => bs.length - (intOf i).toNat)
          case atStart => exact ⟨0, Nat.zero_le _, rfl, HF15.out⟩
          case round =>
            obtain ⟨j2, hj2, rfl, hfi2⟩ := hrel
            by_cases hlt2 : j2 < bs.length
            · obtain ⟨u2, hcell2⟩ := hfi2.cell j2 hlt2
              have hfr2 := hfi2.fr j2 hlt2
              have HNx2 := Lib.hid (hfi2.next hlt2 (.int .u8 1))
              have hA15 := HA15.out (by omega)
              subst hA15
              have hgb2 := World.block_lt_of_cell? _ _ hcell2
              have lj2 : (j2 : Int) < (bs.length : Int) := by omega
              clear hfi2
              go_wp2_with fail
              go_roundw
              case rel =>
                have hfin : FillR g15 bs.length w9 (.int .i64 ((j2 : Int) + 1)) (wr.setCell ⟨g15, j2, none⟩ (.int .u8 1)) := ⟨j2 + 1, by omega, by simp, HNx2.out⟩
                first | exact hfin | ((repeat apply Exists.intro); exact ⟨hfin, rfl⟩)
              case measure => simp [intOf]; omega
            · have nl2 : ¬ ((j2 : Int) < (bs.length : Int)) := by omega
              have h15 : 0 < bs.length → g15 < w7.heap.size := HGL15.out
              have hb6x : Below w6.heap.size w6 wr := (HB67.out.trans ((HB78.out.trans (HB89.out.mono HB78.out.size)).mono HB67.out.size)).trans (hfi2.kx.below (by have := HB67.out.size; have := HB78.out.size; have := HB89.out.size; omega) (fun b hb => by rw [hb.1]; exact HG15.out))
              have hk8x : Kx (fun b => b = g15 ∧ 0 < bs.length) w8 wr := (Kx.of_below HB89.out).trans hfi2.kx
              have HX := Lib.hid (HN16.out.kx5 hk8x h15)
              have HKp := Lib.hid (HN19.out.kx5 hfi2.kx (fun h => by have := h15 h; have := HB78.out.size; omega))
              have HBx := Lib.hid (HB6.out.trans (hb6x.mono HB6.out.size))
              have HB6x := Lib.hid hb6x
              clear hfi2 hb6x hk8x
              go_wp2_with (first | (go_at_call 13; (with_reducible refine (HG.out _ _ _ HBx.out (HSb.out _ HBx.out) HLB.out HMB.out).mono ?_); rintro e w10 ⟨v23, rfl, ⟨sb23, so23, rfl, -, -⟩, hb10⟩; have HY : Hid (RdS w10 w10.heap.size none Fo.nil) := Lib.hid RdS.nil_; have HBx10 := Lib.hid hb10; have HB10 := Lib.hid (HBx.out.trans (hb10.mono HBx.out.size)); clear hb10))
              have h6t := HB6x.out.trans (HBx10.out.mono HB6x.out.size)
              have h3t := HB3r.out.trans ((HBr6.out.trans (h6t.mono HBr6.out.size)).mono HB3r.out.size)
              have HOf := Lib.hid (fun w' (h : Below w10.heap.size w10 w') => ((HO3.out.below (h3t.trans (h.mono h3t.size))).more (Nat.le_trans h3t.size h.size)))
              have HLf := Lib.hid (fun w' (h : Below w10.heap.size w10 w') => HRl.out w' (HB10.out.trans (h.mono HB10.out.size)))
              have HXf := Lib.hid (fun w' (h : Below w10.heap.size w10 w') => (((HX.out.below HBx10.out).more HBx10.out.size).below h).more h.size)
              have HKf := Lib.hid (fun w' (h : Below w10.heap.size w10 w') => (((HKp.out.below HBx10.out).more HBx10.out.size).below h).more h.size)
              have HYf := Lib.hid (fun w' (h : Below w10.heap.size w10 w') => (HY.out.below h).more h.size)
              have HCv : Hid (∀ w', Below w10.heap.size w10 w' → (convert 26 9 (.slice A13 pf.length c13)).run Tryz.prog w' = .ok (.string ⟨pf.toArray⟩) w') := Lib.hid fun w' h => run_str_of (P := Tryz.prog) 26 9 5 Tryz.underlying26 Tryz.underlying5 Tryz.underlying9 (HS13.out.below (h6t.trans (h.mono h6t.size))) c13
              clear h6t h3t
              refine wp_region_held_drew (S := fun w' => (convert 26 9 (.slice A13 pf.length c13)).run Tryz.prog w' = .ok (.string ⟨pf.toArray⟩) w') (by kernel_rfl) (HCv.out _ (Below.refl _ _).drew) (fun hHeld => ?_)
              refine region_take 0 (some 87) (v := ?_) rfl rfl (by kernel_rfl) (by kernel_rfl) (by kernel_rfl) (fun _ _ _ h => h) (by rfl) ?_ (by assumption) ?_
              rotate_left
              · (intro w hSw; (try dsimp only at hSw); go_simp; try with_reducible rfl)
              try simp only [Act.put, List.setIfInBounds_toArray, List.set_cons_zero, List.set_cons_succ]
              refine region_take 1 (some 88) (v := ?_) rfl rfl (by kernel_rfl) (by kernel_rfl) (by kernel_rfl) (fun _ _ _ h => h) (by rfl) ?_ (by assumption) ?_
              rotate_left
              · (intro w hSw; (try dsimp only at hSw); go_simp; try with_reducible rfl)
              try simp only [Act.put, List.setIfInBounds_toArray, List.set_cons_zero, List.set_cons_succ]
              refine region_take 2 (some 89) (v := ?_) rfl rfl (by kernel_rfl) (by kernel_rfl) (by kernel_rfl) (fun _ _ _ h => h) (by rfl) ?_ (by assumption) ?_
              rotate_left
              · (intro w hSw; (try dsimp only at hSw); go_simp; try with_reducible rfl)
              try simp only [Act.put, List.setIfInBounds_toArray, List.set_cons_zero, List.set_cons_succ]
              refine region_take 3 (some 90) (v := ?_) rfl rfl (by kernel_rfl) (by kernel_rfl) (by kernel_rfl) (fun _ _ _ h => h) (by rfl) ?_ (by assumption) ?_
              rotate_left
              · (intro w hSw; (try dsimp only at hSw); go_simp; try with_reducible rfl)
              try simp only [Act.put, List.setIfInBounds_toArray, List.set_cons_zero, List.set_cons_succ]
              refine wpAnyH_ready (rs := [4]) (by kernel_rfl) (by simp) ?_
              refine AllReadyH.cons rfl (fun K hK => ?_) AllReadyH.nil
              go_simp
              refine (HSI.out _ _ _ c8 c f (HOf.out _ (Below.refl _ _).drew) (HLf.out _ (Below.refl _ _).drew) HML.out).mono ?_
              rintro e w11 ⟨rfl, hb⟩
              have HBw11 : Hid (Below w10.heap.size w10 w11) := Lib.hid ((Below.refl w10.heap.size w10).drew.trans (hb.mono (Below.refl w10.heap.size w10).drew.size))
              clear hb hHeld
              go_wp2_with fail
              refine hK.out _ _ (HCv.out _ HBw11.out) (fun hHeld => ?_)
              clear hK K
              try simp only [Act.put, List.setIfInBounds_toArray, List.set_cons_zero, List.set_cons_succ]
              refine region_take 5 (some 92) (v := ?_) rfl rfl (by kernel_rfl) (by kernel_rfl) (by kernel_rfl) (fun _ _ _ h => h) (by rfl) ?_ (by assumption) ?_
              rotate_left
              · (intro w hSw; (try dsimp only at hSw); go_simp; try with_reducible rfl)
              try simp only [Act.put, List.setIfInBounds_toArray, List.set_cons_zero, List.set_cons_succ]
              refine region_take 6 (some 93) (v := ?_) rfl rfl (by kernel_rfl) (by kernel_rfl) (by kernel_rfl) (fun _ _ _ h => h) (by rfl) ?_ (by assumption) ?_
              rotate_left
              · (intro w hSw; (try dsimp only at hSw); go_simp; try with_reducible rfl)
              try simp only [Act.put, List.setIfInBounds_toArray, List.set_cons_zero, List.set_cons_succ]
              refine region_take 7 (some 94) (v := ?_) rfl rfl (by kernel_rfl) (by kernel_rfl) (by kernel_rfl) (fun _ _ _ h => h) (by rfl) ?_ (by assumption) ?_
              rotate_left
              · (intro w hSw; (try dsimp only at hSw); go_simp; try with_reducible rfl)
              try simp only [Act.put, List.setIfInBounds_toArray, List.set_cons_zero, List.set_cons_succ]
              refine region_take 8 (some 95) (v := ?_) rfl rfl (by kernel_rfl) (by kernel_rfl) (by kernel_rfl) (fun _ _ _ h => h) (by rfl) ?_ (by assumption) ?_
              rotate_left
              · (intro w hSw; (try dsimp only at hSw); go_simp; try with_reducible rfl)
              try simp only [Act.put, List.setIfInBounds_toArray, List.set_cons_zero, List.set_cons_succ]
              refine region_take 9 (some 96) (v := ?_) rfl rfl (by kernel_rfl) (by kernel_rfl) (by kernel_rfl) (fun _ _ _ h => h) (by rfl) ?_ (by assumption) ?_
              rotate_left
              · (intro w hSw; (try dsimp only at hSw); go_simp; try with_reducible rfl)
              try simp only [Act.put, List.setIfInBounds_toArray, List.set_cons_zero, List.set_cons_succ]
              refine region_take 10 (some 97) (v := ?_) rfl rfl (by kernel_rfl) (by kernel_rfl) (by kernel_rfl) (fun _ _ _ h => h) (by rfl) ?_ (by assumption) ?_
              rotate_left
              · (intro w hSw; (try dsimp only at hSw); go_simp; try with_reducible rfl)
              try simp only [Act.put, List.setIfInBounds_toArray, List.set_cons_zero, List.set_cons_succ]
              refine region_take 11 (some 98) (v := ?_) rfl rfl (by kernel_rfl) (by kernel_rfl) (by kernel_rfl) (fun _ _ _ h => h) (by rfl) ?_ (by assumption) ?_
              rotate_left
              · (intro w hSw; (try dsimp only at hSw); go_simp; try with_reducible rfl)
              try simp only [Act.put, List.setIfInBounds_toArray, List.set_cons_zero, List.set_cons_succ]
              refine region_take 12 (some 99) (v := ?_) rfl rfl (by kernel_rfl) (by kernel_rfl) (by kernel_rfl) (fun _ _ _ h => h) (by rfl) ?_ (by assumption) ?_
              rotate_left
              · (intro w hSw; (try dsimp only at hSw); go_simp; try with_reducible rfl)
              try simp only [Act.put, List.setIfInBounds_toArray, List.set_cons_zero, List.set_cons_succ]
              refine region_take 13 (some 100) (v := ?_) rfl rfl (by kernel_rfl) (by kernel_rfl) (by kernel_rfl) (fun _ _ _ h => h) (by rfl) ?_ (by assumption) ?_
              rotate_left
              · (intro w hSw; (try dsimp only at hSw); go_simp; try with_reducible rfl)
              try simp only [Act.put, List.setIfInBounds_toArray, List.set_cons_zero, List.set_cons_succ]
              refine region_take 14 (some 101) (v := ?_) rfl rfl (by kernel_rfl) (by kernel_rfl) (by kernel_rfl) (fun _ _ _ h => h) (by rfl) ?_ (by assumption) ?_
              rotate_left
              · (intro w hSw; (try dsimp only at hSw); go_simp; try with_reducible rfl)
              try simp only [Act.put, List.setIfInBounds_toArray, List.set_cons_zero, List.set_cons_succ]
              refine region_take 15 (some 102) (v := ?_) rfl rfl (by kernel_rfl) (by kernel_rfl) (by kernel_rfl) (fun _ _ _ h => h) (by rfl) ?_ (by assumption) ?_
              rotate_left
              · (intro w hSw; (try dsimp only at hSw); go_simp; try with_reducible rfl)
              try simp only [Act.put, List.setIfInBounds_toArray, List.set_cons_zero, List.set_cons_succ]
              refine region_take 16 (some 103) (v := ?_) rfl rfl (by kernel_rfl) (by kernel_rfl) (by kernel_rfl) (fun _ _ _ h => h) (by rfl) ?_ (by assumption) ?_
              rotate_left
              · (intro w hSw; (try dsimp only at hSw); go_simp; try with_reducible rfl)
              try simp only [Act.put, List.setIfInBounds_toArray, List.set_cons_zero, List.set_cons_succ]
              refine region_take 17 (some 104) (v := ?_) rfl rfl (by kernel_rfl) (by kernel_rfl) (by kernel_rfl) (fun _ _ _ h => h) (by rfl) ?_ (by assumption) ?_
              rotate_left
              · (intro w hSw; (try dsimp only at hSw); go_simp; try with_reducible rfl)
              try simp only [Act.put, List.setIfInBounds_toArray, List.set_cons_zero, List.set_cons_succ]
              refine region_take 18 (some 105) (v := ?_) rfl rfl (by kernel_rfl) (by kernel_rfl) (by kernel_rfl) (fun _ _ _ h => h) (by rfl) ?_ (by assumption) ?_
              rotate_left
              · (intro w hSw; (try dsimp only at hSw); go_simp; try with_reducible rfl)
              try simp only [Act.put, List.setIfInBounds_toArray, List.set_cons_zero, List.set_cons_succ]
              refine region_take 19 (some 106) (v := ?_) rfl rfl (by kernel_rfl) (by kernel_rfl) (by kernel_rfl) (fun _ _ _ h => h) (by rfl) ?_ (by assumption) ?_
              rotate_left
              · (intro w hSw; (try dsimp only at hSw); go_simp; try with_reducible rfl)
              try simp only [Act.put, List.setIfInBounds_toArray, List.set_cons_zero, List.set_cons_succ]
              refine region_take 20 (some 107) (v := ?_) rfl rfl (by kernel_rfl) (by kernel_rfl) (by kernel_rfl) (fun _ _ _ h => h) (by rfl) ?_ (by assumption) ?_
              rotate_left
              · (intro w hSw; (try dsimp only at hSw); go_simp; try with_reducible rfl)
              try simp only [Act.put, List.setIfInBounds_toArray, List.set_cons_zero, List.set_cons_succ]
              refine region_take 21 (some 108) (v := ?_) rfl rfl (by kernel_rfl) (by kernel_rfl) (by kernel_rfl) (fun _ _ _ h => h) (by rfl) ?_ (by assumption) ?_
              rotate_left
              · (intro w hSw; (try dsimp only at hSw); go_simp; try with_reducible rfl)
              try simp only [Act.put, List.setIfInBounds_toArray, List.set_cons_zero, List.set_cons_succ]
              refine region_take 22 (some 109) (v := ?_) rfl rfl (by kernel_rfl) (by kernel_rfl) (by kernel_rfl) (fun _ _ _ h => h) (by rfl) ?_ (by assumption) ?_
              rotate_left
              · (intro w hSw; (try dsimp only at hSw); go_simp; try with_reducible rfl)
              try simp only [Act.put, List.setIfInBounds_toArray, List.set_cons_zero, List.set_cons_succ]
              refine region_take 23 (some 110) (v := ?_) rfl rfl (by kernel_rfl) (by kernel_rfl) (by kernel_rfl) (fun _ _ _ h => h) (by rfl) ?_ (by assumption) ?_
              rotate_left
              · (intro w hSw; (try dsimp only at hSw); go_simp; try with_reducible rfl)
              try simp only [Act.put, List.setIfInBounds_toArray, List.set_cons_zero, List.set_cons_succ]
              refine region_take 24 (some 111) (v := ?_) rfl rfl (by kernel_rfl) (by kernel_rfl) (by kernel_rfl) (fun _ _ _ h => h) (by rfl) ?_ (by assumption) ?_
              rotate_left
              · (intro w hSw; (try dsimp only at hSw); go_simp; try with_reducible rfl)
              try simp only [Act.put, List.setIfInBounds_toArray, List.set_cons_zero, List.set_cons_succ]
              refine region_take 25 (some 112) (v := ?_) rfl rfl (by kernel_rfl) (by kernel_rfl) (by kernel_rfl) (fun _ _ _ h => h) (by rfl) ?_ (by assumption) ?_
              rotate_left
              · (intro w hSw; (try dsimp only at hSw); go_simp; try with_reducible rfl)
              try simp only [Act.put, List.setIfInBounds_toArray, List.set_cons_zero, List.set_cons_succ]
              refine region_take 26 (some 113) (v := ?_) rfl rfl (by kernel_rfl) (by kernel_rfl) (by kernel_rfl) (fun _ _ _ h => h) (by rfl) ?_ (by assumption) ?_
              rotate_left
              · (intro w hSw; (try dsimp only at hSw); go_simp; try with_reducible rfl)
              try simp only [Act.put, List.setIfInBounds_toArray, List.set_cons_zero, List.set_cons_succ]
              refine region_take 27 (some 114) (v := ?_) rfl rfl (by kernel_rfl) (by kernel_rfl) (by kernel_rfl) (fun _ _ _ h => h) (by rfl) ?_ (by assumption) ?_
              rotate_left
              · (intro w hSw; (try dsimp only at hSw); go_simp; try with_reducible rfl)
              try simp only [Act.put, List.setIfInBounds_toArray, List.set_cons_zero, List.set_cons_succ]
              refine region_take 28 (some 115) (v := ?_) rfl rfl (by kernel_rfl) (by kernel_rfl) (by kernel_rfl) (fun _ _ _ h => h) (by rfl) ?_ (by assumption) ?_
              rotate_left
              · (intro w hSw; (try dsimp only at hSw); go_simp; try with_reducible rfl)
              try simp only [Act.put, List.setIfInBounds_toArray, List.set_cons_zero, List.set_cons_succ]
              refine wpAnyH_ready (rs := [29]) (by kernel_rfl) (by simp) ?_
              refine AllReadyH.cons rfl (fun K hK => ?_) AllReadyH.nil
              go_simp
              refine (HSI.out _ _ _ 0 c19 Fo.nil (HXf.out _ HBw11.out) (HKf.out _ HBw11.out) (Nat.zero_le _)).mono ?_
              rintro e w12 ⟨rfl, hb⟩
              have HBw12 : Hid (Below w10.heap.size w10 w12) := Lib.hid (HBw11.out.trans (hb.mono HBw11.out.size))
              clear hb hHeld
              go_wp2_with fail
              refine hK.out _ _ (HCv.out _ HBw12.out) (fun hHeld => ?_)
              clear hK K
              try simp only [Act.put, List.setIfInBounds_toArray, List.set_cons_zero, List.set_cons_succ]
              refine region_take 30 (some 117) (v := ?_) rfl rfl (by kernel_rfl) (by kernel_rfl) (by kernel_rfl) (fun _ _ _ h => h) (by rfl) ?_ (by assumption) ?_
              rotate_left
              · (intro w hSw; (try dsimp only at hSw); go_simp; try with_reducible rfl)
              try simp only [Act.put, List.setIfInBounds_toArray, List.set_cons_zero, List.set_cons_succ]
              refine region_take 31 (some 118) (v := ?_) rfl rfl (by kernel_rfl) (by kernel_rfl) (by kernel_rfl) (fun _ _ _ h => h) (by rfl) ?_ (by assumption) ?_
              rotate_left
              · (intro w hSw; (try dsimp only at hSw); go_simp; try with_reducible rfl)
              try simp only [Act.put, List.setIfInBounds_toArray, List.set_cons_zero, List.set_cons_succ]
              refine region_take 32 (some 119) (v := ?_) rfl rfl (by kernel_rfl) (by kernel_rfl) (by kernel_rfl) (fun _ _ _ h => h) (by rfl) ?_ (by assumption) ?_
              rotate_left
              · (intro w hSw; (try dsimp only at hSw); go_simp; try with_reducible rfl)
              try simp only [Act.put, List.setIfInBounds_toArray, List.set_cons_zero, List.set_cons_succ]
              refine region_take 33 (some 120) (v := ?_) rfl rfl (by kernel_rfl) (by kernel_rfl) (by kernel_rfl) (fun _ _ _ h => h) (by rfl) ?_ (by assumption) ?_
              rotate_left
              · (intro w hSw; (try dsimp only at hSw); go_simp; try with_reducible rfl)
              try simp only [Act.put, List.setIfInBounds_toArray, List.set_cons_zero, List.set_cons_succ]
              refine wpAnyH_ready (rs := [34]) (by kernel_rfl) (by simp) ?_
              refine AllReadyH.cons rfl (fun K hK => ?_) AllReadyH.nil
              go_simp
              refine (HSI.out _ _ _ 0 c19 Fo.nil (HYf.out _ HBw12.out) (HKf.out _ HBw12.out) (Nat.zero_le _)).mono ?_
              rintro e w13 ⟨rfl, hb⟩
              have HBw13 : Hid (Below w10.heap.size w10 w13) := Lib.hid (HBw12.out.trans (hb.mono HBw12.out.size))
              clear hb hHeld
              go_wp2_with fail
              refine hK.out _ _ (HCv.out _ HBw13.out) (fun hHeld => ?_)
              clear hK K
              try simp only [Act.put, List.setIfInBounds_toArray, List.set_cons_zero, List.set_cons_succ]
              refine region_take 35 (some 122) (v := ?_) rfl rfl (by kernel_rfl) (by kernel_rfl) (by kernel_rfl) (fun _ _ _ h => h) (by rfl) ?_ (by assumption) ?_
              rotate_left
              · (intro w hSw; (try dsimp only at hSw); go_simp; try with_reducible rfl)
              try simp only [Act.put, List.setIfInBounds_toArray, List.set_cons_zero, List.set_cons_succ]
              refine region_take 36 (some 4) (v := ?_) rfl rfl (by kernel_rfl) (by kernel_rfl) (by kernel_rfl) (fun _ _ _ h => h) (by rfl) ?_ (by assumption) ?_
              rotate_left
              · (intro w hSw; (try dsimp only at hSw); go_simp; try with_reducible rfl)
              try simp only [Act.put, List.setIfInBounds_toArray, List.set_cons_zero, List.set_cons_succ]
              refine wpAnyH_done (by kernel_rfl) ?_ _
              go_wp2_with fail
              go_ret
              exact ⟨rfl, HB10.out.trans (HBw13.out.mono HB10.out.size)⟩
    | ok r =>
      obtain ⟨k, l', p'⟩ := r
      obtain ⟨km, kl, kv, kc, kd, kp, -, kb⟩ := get_back hrb
      have kw := wt_lsh5 k kl
      have klw := len_le_wt k
      rw [hrb] at HG
      unfold GetP at HG
      have HCk := Lib.hid (fun w' A' c' (h : RdS w' w'.heap.size A' k) => Copy_any (cnt k) k A' c' w' (Nat.le_refl _) h (light_of_wt k (by omega)) (by unfold RB; omega))
      clear km kl kv kc kd kp kb kw klw hrb
      go_enter Tryz.func7, Tryz.ntmps7
      go_wp2_with (first
        | (go_at_call 8; (with_reducible refine (HU.out).mono ?_); rintro e w1 ⟨rfl, hb1⟩; have HB1 := Lib.hid hb1; clear hb1)
        | (go_at_call 9; (with_reducible refine (HC.out _ HB1.out).mono ?_); rintro e w2 ⟨rfl, rfl⟩)
        | (go_at_call 18; (with_reducible refine (HCp.out _ HB1.out).mono ?_); rintro e w3 ⟨A8, c8, rfl, l8, m8, nf8, hb8, -⟩; have HB3 := Lib.hid (HB1.out.trans (hb8.mono HB1.out.size)); have HO3 := Lib.hid nf8.get; clear nf8 hb8)
        | (go_at_call 10; (with_reducible refine (HP.out _ _ c8 HB3.out HO3.out).mono ?_); rintro e w4 ⟨v4, rfl, ho4⟩; obtain ⟨A9, c9, g9, hv4, l9, m9, s9, hA9, hg9, hgl9, hce9, hfr9⟩ := ho4.fill; subst hv4; have hcv : (convert 26 9 (.slice A9 pf.length c9)).run Tryz.prog w4 = .ok (.string ⟨pf.toArray⟩) w4 := run_str_of (P := Tryz.prog) 26 9 5 Tryz.underlying26 Tryz.underlying5 Tryz.underlying9 s9 c9; have HF9 := Lib.hid (Fill.start hgl9 hce9 hfr9 (Below.refl _ _)); have HB34 := Lib.hid ho4.below; have HA9 := Lib.hid hA9; have HG9 := Lib.hid hg9; have HGL9 := Lib.hid hgl9; clear ho4 s9 hA9 hg9 hgl9 hce9 hfr9))
      clear hcv
      go_loopw [12] (fun i wr => FillR g9 pf.length w4 i wr) (fun i _ => pf.length - (intOf i).toNat)
      case atStart => exact ⟨0, Nat.zero_le _, rfl, HF9.out⟩
      case round =>
        obtain ⟨j, hj, rfl, hfi⟩ := hrel
        by_cases hlt : j < pf.length
        · obtain ⟨u, hcell⟩ := hfi.cell j hlt
          have hfr := hfi.fr j hlt
          have HNx := Lib.hid (hfi.next hlt (.int .u8 9))
          have hA9 := HA9.out (by omega)
          subst hA9
          have hgb : g9 < wr.heap.size := World.block_lt_of_cell? _ _ hcell
          have lj : (j : Int) < (pf.length : Int) := by omega
          clear hfi
          go_wp2_with fail
          go_roundw
          case rel =>
            have hfin : FillR g9 pf.length w4 (.int .i64 ((j : Int) + 1)) (wr.setCell ⟨g9, j, none⟩ (.int .u8 9)) := ⟨j + 1, by omega, by simp, HNx.out⟩
            first | exact hfin | ((repeat apply Exists.intro); exact ⟨hfin, rfl⟩)
          case measure => simp [intOf]; omega
        · have nl : ¬ ((j : Int) < (pf.length : Int)) := by omega
          have hb3r : Below w3.heap.size w3 wr := HB34.out.trans (hfi.kx.below HB34.out.size (fun b hb => by rw [hb.1]; exact HG9.out))
          have HBr := Lib.hid (HB3.out.trans (hb3r.mono HB3.out.size))
          have HOr := Lib.hid ((HO3.out.below hb3r).more hb3r.size)
          have HB3r := Lib.hid hb3r
          clear hfi hb3r
          go_wp2_with (first
            | (go_at_call 10; (with_reducible refine (HP.out _ _ c8 HBr.out HOr.out).mono ?_); rintro e w6 ⟨v6, rfl, ho6⟩; obtain ⟨A13, c13, hv6, -, -, s13⟩ := ho6.form2; subst hv6; have HS13 := Lib.hid s13; have HBr6 := Lib.hid ho6.below; have HB6 := Lib.hid (HBr.out.trans (ho6.below.mono HBr.out.size)); clear ho6 s13)
            | (at_builtin; refine wpl_bytes rfl (.tmp 61) (.tmp 62) rfl bs rfl (show OwB w6 _ _ [] from OwnK.lit0' _ _ _ _ (by simp)) rfl (HSb.out _ (HB6.out.alloc HB6.out.size _)) rfl (by simp only [List.length_nil]; omega) ?_; intro v7 w7 ho7 hk7; rw [List.nil_append] at ho7; obtain ⟨A15, c15, g15, hv7, l15, m15, s15, hA15, hg15, hgl15, hce15, hfr15⟩ := ho7.fill; subst hv7; have HS15 := Lib.hid s15; have HB67 := Lib.hid ho7.below; have HB7 := Lib.hid (HB6.out.trans (ho7.below.mono HB6.out.size)); have HA15 := Lib.hid hA15; have HG15 := Lib.hid hg15; have HGL15 := Lib.hid hgl15; have HCE := Lib.hid hce15; have HFR := Lib.hid hfr15; clear ho7 hk7 s15 hA15 hg15 hgl15 hce15 hfr15)
            | (go_at_call 13; (with_reducible refine (HG.out _ _ _ HB7.out HS15.out l15 m15).mono ?_); rintro e w8 ⟨A16, c16, rfl, l16, m16, nf16, hb8⟩; have HB78 := Lib.hid hb8; have HB8 := Lib.hid (HB7.out.trans (hb8.mono HB7.out.size)); have HN16 := Lib.hid nf16; clear nf16 hb8)
            | (go_at_call 18; (with_reducible refine (HCk.out _ _ c16 HN16.out.get).mono ?_); rintro e w9 ⟨A19, c19, rfl, l19, m19, nf19, hb9, -⟩; have HB89 := Lib.hid hb9; have HB9 := Lib.hid (HB8.out.trans (hb9.mono HB8.out.size)); have HN19 := Lib.hid nf19; clear nf19 hb9))
          have HF15 := Lib.hid (Fill.start HGL15.out HCE.out HFR.out (HB78.out.trans (HB89.out.mono HB78.out.size)))
          go_loopw [20] (fun i wr2 => FillR g15 bs.length w9 i wr2) (fun i _ => bs.length - (intOf i).toNat)
          case atStart => exact ⟨0, Nat.zero_le _, rfl, HF15.out⟩
          case round =>
            obtain ⟨j2, hj2, rfl, hfi2⟩ := hrel
            by_cases hlt2 : j2 < bs.length
            · obtain ⟨u2, hcell2⟩ := hfi2.cell j2 hlt2
              have hfr2 := hfi2.fr j2 hlt2
              have HNx2 := Lib.hid (hfi2.next hlt2 (.int .u8 1))
              have hA15 := HA15.out (by omega)
              subst hA15
              have hgb2 := World.block_lt_of_cell? _ _ hcell2
              have lj2 : (j2 : Int) < (bs.length : Int) := by omega
              clear hfi2
              go_wp2_with fail
              go_roundw
              case rel =>
                have hfin : FillR g15 bs.length w9 (.int .i64 ((j2 : Int) + 1)) (wr.setCell ⟨g15, j2, none⟩ (.int .u8 1)) := ⟨j2 + 1, by omega, by simp, HNx2.out⟩
                first | exact hfin | ((repeat apply Exists.intro); exact ⟨hfin, rfl⟩)
              case measure => simp [intOf]; omega
            · have nl2 : ¬ ((j2 : Int) < (bs.length : Int)) := by omega
              have h15 : 0 < bs.length → g15 < w7.heap.size := HGL15.out
              have hb6x : Below w6.heap.size w6 wr := (HB67.out.trans ((HB78.out.trans (HB89.out.mono HB78.out.size)).mono HB67.out.size)).trans (hfi2.kx.below (by have := HB67.out.size; have := HB78.out.size; have := HB89.out.size; omega) (fun b hb => by rw [hb.1]; exact HG15.out))
              have hk8x : Kx (fun b => b = g15 ∧ 0 < bs.length) w8 wr := (Kx.of_below HB89.out).trans hfi2.kx
              have HX := Lib.hid (HN16.out.kx5 hk8x h15)
              have HKp := Lib.hid (HN19.out.kx5 hfi2.kx (fun h => by have := h15 h; have := HB78.out.size; omega))
              have HBx := Lib.hid (HB6.out.trans (hb6x.mono HB6.out.size))
              have HB6x := Lib.hid hb6x
              clear hfi2 hb6x hk8x
              go_wp2_with (first | (go_at_call 13; (with_reducible refine (HG.out _ _ _ HBx.out (HSb.out _ HBx.out) HLB.out HMB.out).mono ?_); rintro e w10 ⟨A21, c21, rfl, l21, m21, nf21, hb10⟩; have HY := Lib.hid nf21.get; have HBx10 := Lib.hid hb10; have HB10 := Lib.hid (HBx.out.trans (hb10.mono HBx.out.size)); clear nf21 hb10))
              have h6t := HB6x.out.trans (HBx10.out.mono HB6x.out.size)
              have h3t := HB3r.out.trans ((HBr6.out.trans (h6t.mono HBr6.out.size)).mono HB3r.out.size)
              have HOf := Lib.hid (fun w' (h : Below w10.heap.size w10 w') => ((HO3.out.below (h3t.trans (h.mono h3t.size))).more (Nat.le_trans h3t.size h.size)))
              have HLf := Lib.hid (fun w' (h : Below w10.heap.size w10 w') => HRl.out w' (HB10.out.trans (h.mono HB10.out.size)))
              have HXf := Lib.hid (fun w' (h : Below w10.heap.size w10 w') => (((HX.out.below HBx10.out).more HBx10.out.size).below h).more h.size)
              have HKf := Lib.hid (fun w' (h : Below w10.heap.size w10 w') => (((HKp.out.below HBx10.out).more HBx10.out.size).below h).more h.size)
              have HYf := Lib.hid (fun w' (h : Below w10.heap.size w10 w') => (HY.out.below h).more h.size)
              have HCv : Hid (∀ w', Below w10.heap.size w10 w' → (convert 26 9 (.slice A13 pf.length c13)).run Tryz.prog w' = .ok (.string ⟨pf.toArray⟩) w') := Lib.hid fun w' h => run_str_of (P := Tryz.prog) 26 9 5 Tryz.underlying26 Tryz.underlying5 Tryz.underlying9 (HS13.out.below (h6t.trans (h.mono h6t.size))) c13
              clear h6t h3t
              refine wp_region_held_drew (S := fun w' => (convert 26 9 (.slice A13 pf.length c13)).run Tryz.prog w' = .ok (.string ⟨pf.toArray⟩) w') (by kernel_rfl) (HCv.out _ (Below.refl _ _).drew) (fun hHeld => ?_)
              refine region_take 0 (some 87) (v := ?_) rfl rfl (by kernel_rfl) (by kernel_rfl) (by kernel_rfl) (fun _ _ _ h => h) (by rfl) ?_ (by assumption) ?_
              rotate_left
              · (intro w hSw; (try dsimp only at hSw); go_simp; try with_reducible rfl)
              try simp only [Act.put, List.setIfInBounds_toArray, List.set_cons_zero, List.set_cons_succ]
              refine region_take 1 (some 88) (v := ?_) rfl rfl (by kernel_rfl) (by kernel_rfl) (by kernel_rfl) (fun _ _ _ h => h) (by rfl) ?_ (by assumption) ?_
              rotate_left
              · (intro w hSw; (try dsimp only at hSw); go_simp; try with_reducible rfl)
              try simp only [Act.put, List.setIfInBounds_toArray, List.set_cons_zero, List.set_cons_succ]
              refine region_take 2 (some 89) (v := ?_) rfl rfl (by kernel_rfl) (by kernel_rfl) (by kernel_rfl) (fun _ _ _ h => h) (by rfl) ?_ (by assumption) ?_
              rotate_left
              · (intro w hSw; (try dsimp only at hSw); go_simp; try with_reducible rfl)
              try simp only [Act.put, List.setIfInBounds_toArray, List.set_cons_zero, List.set_cons_succ]
              refine region_take 3 (some 90) (v := ?_) rfl rfl (by kernel_rfl) (by kernel_rfl) (by kernel_rfl) (fun _ _ _ h => h) (by rfl) ?_ (by assumption) ?_
              rotate_left
              · (intro w hSw; (try dsimp only at hSw); go_simp; try with_reducible rfl)
              try simp only [Act.put, List.setIfInBounds_toArray, List.set_cons_zero, List.set_cons_succ]
              refine wpAnyH_ready (rs := [4]) (by kernel_rfl) (by simp) ?_
              refine AllReadyH.cons rfl (fun K hK => ?_) AllReadyH.nil
              go_simp
              refine (HSI.out _ _ _ c8 c f (HOf.out _ (Below.refl _ _).drew) (HLf.out _ (Below.refl _ _).drew) HML.out).mono ?_
              rintro e w11 ⟨rfl, hb⟩
              have HBw11 : Hid (Below w10.heap.size w10 w11) := Lib.hid ((Below.refl w10.heap.size w10).drew.trans (hb.mono (Below.refl w10.heap.size w10).drew.size))
              clear hb hHeld
              go_wp2_with fail
              refine hK.out _ _ (HCv.out _ HBw11.out) (fun hHeld => ?_)
              clear hK K
              try simp only [Act.put, List.setIfInBounds_toArray, List.set_cons_zero, List.set_cons_succ]
              refine region_take 5 (some 92) (v := ?_) rfl rfl (by kernel_rfl) (by kernel_rfl) (by kernel_rfl) (fun _ _ _ h => h) (by rfl) ?_ (by assumption) ?_
              rotate_left
              · (intro w hSw; (try dsimp only at hSw); go_simp; try with_reducible rfl)
              try simp only [Act.put, List.setIfInBounds_toArray, List.set_cons_zero, List.set_cons_succ]
              refine region_take 6 (some 93) (v := ?_) rfl rfl (by kernel_rfl) (by kernel_rfl) (by kernel_rfl) (fun _ _ _ h => h) (by rfl) ?_ (by assumption) ?_
              rotate_left
              · (intro w hSw; (try dsimp only at hSw); go_simp; try with_reducible rfl)
              try simp only [Act.put, List.setIfInBounds_toArray, List.set_cons_zero, List.set_cons_succ]
              refine region_take 7 (some 94) (v := ?_) rfl rfl (by kernel_rfl) (by kernel_rfl) (by kernel_rfl) (fun _ _ _ h => h) (by rfl) ?_ (by assumption) ?_
              rotate_left
              · (intro w hSw; (try dsimp only at hSw); go_simp; try with_reducible rfl)
              try simp only [Act.put, List.setIfInBounds_toArray, List.set_cons_zero, List.set_cons_succ]
              refine region_take 8 (some 95) (v := ?_) rfl rfl (by kernel_rfl) (by kernel_rfl) (by kernel_rfl) (fun _ _ _ h => h) (by rfl) ?_ (by assumption) ?_
              rotate_left
              · (intro w hSw; (try dsimp only at hSw); go_simp; try with_reducible rfl)
              try simp only [Act.put, List.setIfInBounds_toArray, List.set_cons_zero, List.set_cons_succ]
              refine region_take 9 (some 96) (v := ?_) rfl rfl (by kernel_rfl) (by kernel_rfl) (by kernel_rfl) (fun _ _ _ h => h) (by rfl) ?_ (by assumption) ?_
              rotate_left
              · (intro w hSw; (try dsimp only at hSw); go_simp; try with_reducible rfl)
              try simp only [Act.put, List.setIfInBounds_toArray, List.set_cons_zero, List.set_cons_succ]
              refine region_take 10 (some 97) (v := ?_) rfl rfl (by kernel_rfl) (by kernel_rfl) (by kernel_rfl) (fun _ _ _ h => h) (by rfl) ?_ (by assumption) ?_
              rotate_left
              · (intro w hSw; (try dsimp only at hSw); go_simp; try with_reducible rfl)
              try simp only [Act.put, List.setIfInBounds_toArray, List.set_cons_zero, List.set_cons_succ]
              refine region_take 11 (some 98) (v := ?_) rfl rfl (by kernel_rfl) (by kernel_rfl) (by kernel_rfl) (fun _ _ _ h => h) (by rfl) ?_ (by assumption) ?_
              rotate_left
              · (intro w hSw; (try dsimp only at hSw); go_simp; try with_reducible rfl)
              try simp only [Act.put, List.setIfInBounds_toArray, List.set_cons_zero, List.set_cons_succ]
              refine region_take 12 (some 99) (v := ?_) rfl rfl (by kernel_rfl) (by kernel_rfl) (by kernel_rfl) (fun _ _ _ h => h) (by rfl) ?_ (by assumption) ?_
              rotate_left
              · (intro w hSw; (try dsimp only at hSw); go_simp; try with_reducible rfl)
              try simp only [Act.put, List.setIfInBounds_toArray, List.set_cons_zero, List.set_cons_succ]
              refine region_take 13 (some 100) (v := ?_) rfl rfl (by kernel_rfl) (by kernel_rfl) (by kernel_rfl) (fun _ _ _ h => h) (by rfl) ?_ (by assumption) ?_
              rotate_left
              · (intro w hSw; (try dsimp only at hSw); go_simp; try with_reducible rfl)
              try simp only [Act.put, List.setIfInBounds_toArray, List.set_cons_zero, List.set_cons_succ]
              refine region_take 14 (some 101) (v := ?_) rfl rfl (by kernel_rfl) (by kernel_rfl) (by kernel_rfl) (fun _ _ _ h => h) (by rfl) ?_ (by assumption) ?_
              rotate_left
              · (intro w hSw; (try dsimp only at hSw); go_simp; try with_reducible rfl)
              try simp only [Act.put, List.setIfInBounds_toArray, List.set_cons_zero, List.set_cons_succ]
              refine region_take 15 (some 102) (v := ?_) rfl rfl (by kernel_rfl) (by kernel_rfl) (by kernel_rfl) (fun _ _ _ h => h) (by rfl) ?_ (by assumption) ?_
              rotate_left
              · (intro w hSw; (try dsimp only at hSw); go_simp; try with_reducible rfl)
              try simp only [Act.put, List.setIfInBounds_toArray, List.set_cons_zero, List.set_cons_succ]
              refine region_take 16 (some 103) (v := ?_) rfl rfl (by kernel_rfl) (by kernel_rfl) (by kernel_rfl) (fun _ _ _ h => h) (by rfl) ?_ (by assumption) ?_
              rotate_left
              · (intro w hSw; (try dsimp only at hSw); go_simp; try with_reducible rfl)
              try simp only [Act.put, List.setIfInBounds_toArray, List.set_cons_zero, List.set_cons_succ]
              refine region_take 17 (some 104) (v := ?_) rfl rfl (by kernel_rfl) (by kernel_rfl) (by kernel_rfl) (fun _ _ _ h => h) (by rfl) ?_ (by assumption) ?_
              rotate_left
              · (intro w hSw; (try dsimp only at hSw); go_simp; try with_reducible rfl)
              try simp only [Act.put, List.setIfInBounds_toArray, List.set_cons_zero, List.set_cons_succ]
              refine region_take 18 (some 105) (v := ?_) rfl rfl (by kernel_rfl) (by kernel_rfl) (by kernel_rfl) (fun _ _ _ h => h) (by rfl) ?_ (by assumption) ?_
              rotate_left
              · (intro w hSw; (try dsimp only at hSw); go_simp; try with_reducible rfl)
              try simp only [Act.put, List.setIfInBounds_toArray, List.set_cons_zero, List.set_cons_succ]
              refine region_take 19 (some 106) (v := ?_) rfl rfl (by kernel_rfl) (by kernel_rfl) (by kernel_rfl) (fun _ _ _ h => h) (by rfl) ?_ (by assumption) ?_
              rotate_left
              · (intro w hSw; (try dsimp only at hSw); go_simp; try with_reducible rfl)
              try simp only [Act.put, List.setIfInBounds_toArray, List.set_cons_zero, List.set_cons_succ]
              refine region_take 20 (some 107) (v := ?_) rfl rfl (by kernel_rfl) (by kernel_rfl) (by kernel_rfl) (fun _ _ _ h => h) (by rfl) ?_ (by assumption) ?_
              rotate_left
              · (intro w hSw; (try dsimp only at hSw); go_simp; try with_reducible rfl)
              try simp only [Act.put, List.setIfInBounds_toArray, List.set_cons_zero, List.set_cons_succ]
              refine region_take 21 (some 108) (v := ?_) rfl rfl (by kernel_rfl) (by kernel_rfl) (by kernel_rfl) (fun _ _ _ h => h) (by rfl) ?_ (by assumption) ?_
              rotate_left
              · (intro w hSw; (try dsimp only at hSw); go_simp; try with_reducible rfl)
              try simp only [Act.put, List.setIfInBounds_toArray, List.set_cons_zero, List.set_cons_succ]
              refine region_take 22 (some 109) (v := ?_) rfl rfl (by kernel_rfl) (by kernel_rfl) (by kernel_rfl) (fun _ _ _ h => h) (by rfl) ?_ (by assumption) ?_
              rotate_left
              · (intro w hSw; (try dsimp only at hSw); go_simp; try with_reducible rfl)
              try simp only [Act.put, List.setIfInBounds_toArray, List.set_cons_zero, List.set_cons_succ]
              refine region_take 23 (some 110) (v := ?_) rfl rfl (by kernel_rfl) (by kernel_rfl) (by kernel_rfl) (fun _ _ _ h => h) (by rfl) ?_ (by assumption) ?_
              rotate_left
              · (intro w hSw; (try dsimp only at hSw); go_simp; try with_reducible rfl)
              try simp only [Act.put, List.setIfInBounds_toArray, List.set_cons_zero, List.set_cons_succ]
              refine region_take 24 (some 111) (v := ?_) rfl rfl (by kernel_rfl) (by kernel_rfl) (by kernel_rfl) (fun _ _ _ h => h) (by rfl) ?_ (by assumption) ?_
              rotate_left
              · (intro w hSw; (try dsimp only at hSw); go_simp; try with_reducible rfl)
              try simp only [Act.put, List.setIfInBounds_toArray, List.set_cons_zero, List.set_cons_succ]
              refine region_take 25 (some 112) (v := ?_) rfl rfl (by kernel_rfl) (by kernel_rfl) (by kernel_rfl) (fun _ _ _ h => h) (by rfl) ?_ (by assumption) ?_
              rotate_left
              · (intro w hSw; (try dsimp only at hSw); go_simp; try with_reducible rfl)
              try simp only [Act.put, List.setIfInBounds_toArray, List.set_cons_zero, List.set_cons_succ]
              refine region_take 26 (some 113) (v := ?_) rfl rfl (by kernel_rfl) (by kernel_rfl) (by kernel_rfl) (fun _ _ _ h => h) (by rfl) ?_ (by assumption) ?_
              rotate_left
              · (intro w hSw; (try dsimp only at hSw); go_simp; try with_reducible rfl)
              try simp only [Act.put, List.setIfInBounds_toArray, List.set_cons_zero, List.set_cons_succ]
              refine region_take 27 (some 114) (v := ?_) rfl rfl (by kernel_rfl) (by kernel_rfl) (by kernel_rfl) (fun _ _ _ h => h) (by rfl) ?_ (by assumption) ?_
              rotate_left
              · (intro w hSw; (try dsimp only at hSw); go_simp; try with_reducible rfl)
              try simp only [Act.put, List.setIfInBounds_toArray, List.set_cons_zero, List.set_cons_succ]
              refine region_take 28 (some 115) (v := ?_) rfl rfl (by kernel_rfl) (by kernel_rfl) (by kernel_rfl) (fun _ _ _ h => h) (by rfl) ?_ (by assumption) ?_
              rotate_left
              · (intro w hSw; (try dsimp only at hSw); go_simp; try with_reducible rfl)
              try simp only [Act.put, List.setIfInBounds_toArray, List.set_cons_zero, List.set_cons_succ]
              refine wpAnyH_ready (rs := [29]) (by kernel_rfl) (by simp) ?_
              refine AllReadyH.cons rfl (fun K hK => ?_) AllReadyH.nil
              go_simp
              refine (HSI.out _ _ _ c16 c19 k (HXf.out _ HBw11.out) (HKf.out _ HBw11.out) (Nat.le_trans l16 m16)).mono ?_
              rintro e w12 ⟨rfl, hb⟩
              have HBw12 : Hid (Below w10.heap.size w10 w12) := Lib.hid (HBw11.out.trans (hb.mono HBw11.out.size))
              clear hb hHeld
              go_wp2_with fail
              refine hK.out _ _ (HCv.out _ HBw12.out) (fun hHeld => ?_)
              clear hK K
              try simp only [Act.put, List.setIfInBounds_toArray, List.set_cons_zero, List.set_cons_succ]
              refine region_take 30 (some 117) (v := ?_) rfl rfl (by kernel_rfl) (by kernel_rfl) (by kernel_rfl) (fun _ _ _ h => h) (by rfl) ?_ (by assumption) ?_
              rotate_left
              · (intro w hSw; (try dsimp only at hSw); go_simp; try with_reducible rfl)
              try simp only [Act.put, List.setIfInBounds_toArray, List.set_cons_zero, List.set_cons_succ]
              refine region_take 31 (some 118) (v := ?_) rfl rfl (by kernel_rfl) (by kernel_rfl) (by kernel_rfl) (fun _ _ _ h => h) (by rfl) ?_ (by assumption) ?_
              rotate_left
              · (intro w hSw; (try dsimp only at hSw); go_simp; try with_reducible rfl)
              try simp only [Act.put, List.setIfInBounds_toArray, List.set_cons_zero, List.set_cons_succ]
              refine region_take 32 (some 119) (v := ?_) rfl rfl (by kernel_rfl) (by kernel_rfl) (by kernel_rfl) (fun _ _ _ h => h) (by rfl) ?_ (by assumption) ?_
              rotate_left
              · (intro w hSw; (try dsimp only at hSw); go_simp; try with_reducible rfl)
              try simp only [Act.put, List.setIfInBounds_toArray, List.set_cons_zero, List.set_cons_succ]
              refine region_take 33 (some 120) (v := ?_) rfl rfl (by kernel_rfl) (by kernel_rfl) (by kernel_rfl) (fun _ _ _ h => h) (by rfl) ?_ (by assumption) ?_
              rotate_left
              · (intro w hSw; (try dsimp only at hSw); go_simp; try with_reducible rfl)
              try simp only [Act.put, List.setIfInBounds_toArray, List.set_cons_zero, List.set_cons_succ]
              refine wpAnyH_ready (rs := [34]) (by kernel_rfl) (by simp) ?_
              refine AllReadyH.cons rfl (fun K hK => ?_) AllReadyH.nil
              go_simp
              refine (HSI.out _ _ _ c21 c19 k (HYf.out _ HBw12.out) (HKf.out _ HBw12.out) (Nat.le_trans l16 m16)).mono ?_
              rintro e w13 ⟨rfl, hb⟩
              have HBw13 : Hid (Below w10.heap.size w10 w13) := Lib.hid (HBw12.out.trans (hb.mono HBw12.out.size))
              clear hb hHeld
              go_wp2_with fail
              refine hK.out _ _ (HCv.out _ HBw13.out) (fun hHeld => ?_)
              clear hK K
              try simp only [Act.put, List.setIfInBounds_toArray, List.set_cons_zero, List.set_cons_succ]
              refine region_take 35 (some 122) (v := ?_) rfl rfl (by kernel_rfl) (by kernel_rfl) (by kernel_rfl) (fun _ _ _ h => h) (by rfl) ?_ (by assumption) ?_
              rotate_left
              · (intro w hSw; (try dsimp only at hSw); go_simp; try with_reducible rfl)
              try simp only [Act.put, List.setIfInBounds_toArray, List.set_cons_zero, List.set_cons_succ]
              refine region_take 36 (some 4) (v := ?_) rfl rfl (by kernel_rfl) (by kernel_rfl) (by kernel_rfl) (fun _ _ _ h => h) (by rfl) ?_ (by assumption) ?_
              rotate_left
              · (intro w hSw; (try dsimp only at hSw); go_simp; try with_reducible rfl)
              try simp only [Act.put, List.setIfInBounds_toArray, List.set_cons_zero, List.set_cons_succ]
              refine wpAnyH_done (by kernel_rfl) ?_ _
              go_wp2_with fail
              go_ret
              exact ⟨rfl, HB10.out.trans (HBw13.out.mono HB10.out.size)⟩
end Go.Proofs.YtbhniddgkdldlaaGreatDoor
