/- Contract of sect.Split: the sections of bytes, or what is amiss first, and where. -/
import Derived.Test.YthkdpcoacjgomaaDoorSecC
set_option linter.unusedVariables false
set_option linter.unusedSimpArgs false
namespace Go.Proofs.YthkdpcoacjgomaaDoor
open Go.RowKit Trx

def Sc.tr (s : Sc) : Int × Int × List UInt8 := (s.id, s.at_, s.bs)
/-- its bytes hang on the blocks of S alone. -/
def NewSc (S : Nat → Prop) (w : World) (s : Sc) : Prop := ∀ w', Agr S w w' → ScOk w' w.heap.size s
/-- a slice of sections hangs on the blocks of S alone. -/
def NewSecs (S : Nat → Prop) (w : World) (A : Option Addr) (l : List Sc) : Prop := ∀ w', Agr S w w' → SecsAt w' w.heap.size A l
def ptr (s : Sect.Pt) : Int × Int × List UInt8 := (s.id, (s.at_ : Int), s.bs)
/-- what was gathered so far. -/
def CpS (lo : Nat) (w : World) (v : Value) : Nat → Prop := fun b => lo ≤ b ∧ b < w.heap.size ∧ v.ownBlock ≠ some b
theorem NewSc.move {S S' : Nat → Prop} {w w' : World} {s : Sc} (h : NewSc S w s) (ha : Agr S w w') (hs : ∀ b, S b → S' b) (hB : w.heap.size ≤ w'.heap.size) : NewSc S' w' s := fun w2 hx => (h w2 (ha.trans (hx.sub hs))).keep hB fun _ _ _ => rfl
/-- what a call that splits leaves. -/
def SplitR (r : Except (Nat × Nat) (List Sect.Pt)) (w : World) : Ending → World → Prop := fun e w' => match r with
  | .error (k, p) => ∃ v, e = .returned (.tuple #[.slice none 0 0, v]) ∧ SpotIs w' v p k ∧ Below w.heap.size w w'
  | .ok t => ∃ A l c, e = .returned (.tuple #[.slice A (List.length l) c, .nilIface]) ∧ l.map Sc.tr = t.map ptr ∧ l.length ≤ c ∧ c ≤ maxLen ∧ NewSecs (Win w.heap.size w') w' A l ∧ Below w.heap.size w w'
/-- what holds at the head of each round. -/
def SplL (bs : List UInt8) (w : World) (v h a : Value) (wr : World) : Prop := ∃ (acc : List Sc) (t : List Sect.Pt) (hi : Int) (p : Nat), h = .int .i64 hi ∧ a = .int .i64 p ∧ p ≤ bs.length ∧ 8 ≤ p ∧ 0 ≤ hi ∧ hi ≤ 11 ∧ Hid (acc.map Sc.tr = t.map ptr) ∧ acc.length ≤ 128 ∧
  OwnK w.heap.size w wr 34 3 v (acc.map Sc.cells) ∧ (∀ s ∈ acc, NewSc (CpS w.heap.size wr v) wr s) ∧ Hid (Sect.spl (bs.drop 8) 8 0 0 = Sect.pre t (Sect.spl (bs.drop p) p hi acc.length))

theorem secs_of_own {w wr : World} {v : Value} {acc : List Sc} (ho : OwnK w.heap.size w wr 34 3 v (acc.map Sc.cells)) (hnew : ∀ s ∈ acc, NewSc (CpS w.heap.size wr v) wr s) :
    ∃ A c, v = .slice A acc.length c ∧ acc.length ≤ c ∧ c ≤ maxLen ∧ NewSecs (Win w.heap.size wr) wr A acc := by
  obtain ⟨A, c, rfl, h1, h2, hrow⟩ := ho.formB (by omega)
  rw [List.length_map] at h1 ⊢
  refine ⟨A, c, rfl, h1, h2, fun w' ha => ⟨fun hne => ?_, fun s hs => (hnew s hs) w' (fun b o hb => ha b o ⟨hb.1, hb.2.1⟩)⟩⟩
  obtain ⟨g, hg, hA, hB, hlt, hc⟩ := hrow hne
  refine ⟨g, 0, hA, hlt, fun i r hi j hj => ?_⟩
  rw [Nat.zero_add, ha g _ ⟨hB, hlt⟩, hc i r hi j hj]

/-- one more section, whose bytes are new: all of them hang on blocks that are neither old nor the row's own. -/
theorem gather {w wr w1 wm w6 : World} {v v6 : Value} {acc : List Sc} {A5 : Option Addr} {c5 : Nat} {ys : List UInt8} (i a : Int) (hi : inI i) (ha : inI a) (hv : ∀ g, v.ownBlock = some g → g < wr.heap.size) (hlo : w.heap.size ≤ wr.heap.size)
    (hnew : ∀ s ∈ acc, NewSc (CpS w.heap.size wr v) wr s) (h5 : OwB wr w1 (.slice A5 ys.length c5) ys) (hm : Below w1.heap.size w1 wm)
    (hk : ∀ m, m < wm.heap.size → v.ownBlock ≠ some m → w6.heap[m]? = wm.heap[m]? ∧ v6.ownBlock ≠ some m) (hs : wm.heap.size ≤ w6.heap.size) :
    ∀ s ∈ acc ++ [⟨i, a, A5, c5, ys⟩], NewSc (CpS w.heap.size w6 v6) w6 s := by
  intro s hs'
  have h5b := h5.below
  have z1 := h5b.size
  have z2 := hm.size
  rcases List.mem_append.1 hs' with h | h
  · refine (hnew s h).move (agr_of_heap fun b hb => ?_) (fun b hb => ⟨hb.1, by have := hb.2.1; omega, (hk b (by have := hb.2.1; omega) hb.2.2).2⟩) (by omega)
    exact (hk b (by have := hb.2.1; omega) hb.2.2).1.trans ((hm.block b (by have := hb.2.1; omega)).trans (h5b.block b hb.2.1))
  · simp at h
    subst h
    obtain ⟨A', c', e, hl, hmx, -⟩ := OwnK.form h5
    rw [ones_length, u8s_length] at e hl
    injection e with e1 e2 e3
    subst e1 e3
    have hS := OwnK.newS h5 (S := fun b => wr.heap.size ≤ b ∧ b < w1.heap.size) (fun g hg => OwnK.own_lt h5 hg)
    have hnv : ∀ b, wr.heap.size ≤ b → v.ownBlock ≠ some b := fun b hb e => by have := hv b e; omega
    intro w' hagr
    refine ⟨hi, ha, ?_, hl, hmx⟩
    refine (hS w' (fun b o hb => ?_)).more (by omega)
    refine (hagr b o ⟨by have := hb.1; omega, by have := hb.2; omega, (hk b (by have := hb.2; omega) (hnv b hb.1)).2⟩).trans (World.cell?_of_block ?_)
    exact (hk b (by have := hb.2; omega) (hnv b hb.1)).1.trans (hm.block b hb.2)

set_option maxHeartbeats 8000000 in
set_option maxRecDepth 100000 in
theorem Split_any (A : Option Addr) (c : Nat) (bs : List UInt8) (w : World) (hs : Sl w w.heap.size A (u8s bs)) (hc : bs.length ≤ c) (hm : c ≤ maxLen) (hL : bs.length ≤ 100000000) :
    Calls Tryd.prog 9 #[.slice A bs.length c] w (SplitR (Sect.split bs) w) := by
  have HSp := Lib.hid (fun p k w' => spot_any p k w')
  have HS := Lib.hid hs
  have hm' := hm
  unfold maxLen at hm'
  by_cases h8 : bs.length < 8
  · have e : Sect.split bs = .error (2, 0) := by
      unfold Sect.split
      rw [if_neg (fun e => by have := congrArg List.length e; simp [Sect.magic] at this; omega)]
    rw [e]
    unfold SplitR
    clear e
    go_enter Tryd.func9, Tryd.ntmps9
    go_wp2_with (first | (go_at_call 17; (with_reducible refine (HSp.out _ _ _).mono ?_); rintro e w1 ⟨v, rfl, hsp, hb1⟩; have HSP := Lib.hid hsp; have HB := Lib.hid hb1; clear hsp hb1))
    go_ret2
    exact ⟨v, rfl, HSP.out.spot, HB.out⟩
  · have hcv := string_of (w := w) (hs.take 8 |> fun h => (by rw [← u8s_take] at h; exact h : Sl w w.heap.size A (u8s (bs.take 8)))) c
    rw [show (bs.take 8).length = 8 by simp; omega] at hcv
    have b8 : (8 : Int) ≤ c := by omega
    have b8' : 8 ≤ c := by omega
    by_cases hmg : bs.take 8 = Sect.magic
    · obtain ⟨R, hR⟩ : ∃ R, Sect.split bs = R := ⟨_, rfl⟩
      have HR : Hid (Sect.spl (bs.drop 8) 8 0 0 = R) := Lib.hid (by rw [← hR]; unfold Sect.split; rw [if_pos hmg])
      have hne : ((bs.take 8) == [0, 97, 115, 109, 1, 0, 0, 0]) = true := by rw [hmg]; rfl
      rw [hR]
      obtain ⟨P, hP⟩ : ∃ P, SplitR R w = P := ⟨_, rfl⟩
      rw [hP]
      have HPe := Lib.hid hP
      clear hR hmg hP hs
      have h8' : 8 ≤ bs.length := by omega
      clear h8
      have HM := Lib.hid hm
      clear hm
      go_enter Tryd.func9, Tryd.ntmps9
      go_wp2_with fail
      go_loopw [4, 5, 6] (fun v h a wr => SplL bs w v h a wr) (fun _ _ a _ => bs.length - (intOf a).toNat)
      case atStart => exact ⟨[], [], 0, 8, rfl, rfl, h8', by omega, by omega, by omega, Lib.hid rfl, by simp, OwnK.nil_ _ _ _ _ (Below.refl _ _) (Nat.le_refl _), by simp, Lib.hid (by rw [Sect.pre_nil]; rfl)⟩
      case round =>
        obtain ⟨acc, t, hi, p, rfl, rfl, hp, hp8, hi0, hi11, HT, hacc, ho, hnew, HE⟩ := hrel
        by_cases hlt : p < bs.length
        · obtain ⟨b, o, rfl, hbl, hcell⟩ := HS.out (fun e => by have := congrArg List.length e; rw [u8s_length, List.length_nil] at this; omega)
          have hx : wr.cell? ⟨b, o + p, none⟩ = some (.int .u8 ((bs[p]).toNat : Int)) := (ho.below.cell (p := ⟨b, o + p, none⟩) hbl).trans ((hcell p (by simpa using hlt)).trans (u8s_get bs p hlt))
          have hat := Sect.spl_at bs p hi acc.length hlt
          obtain ⟨x, hxe⟩ : ∃ x, bs[p] = x := ⟨_, rfl⟩
          rw [hxe] at hx hat
          have hxl := x.toNat_lt
          have hcl := hcell
          have HF := Lib.hid (fun w' => follows_any x.toNat hi w' (by unfold inI; omega) (by unfold inI; omega))
          obtain ⟨f, hf⟩ : ∃ f, Sect.fol x.toNat hi = f := ⟨_, rfl⟩
          rw [hf] at HF hat
          have HO := Lib.hid ho
          have HNew := Lib.hid hnew
          have HB := Lib.hid ho.below
          have hbl' := Nat.lt_of_lt_of_le hbl ho.below.size
          have hac := ho.form
          have hlen4 : ∃ A4 c4, u4 = .slice A4 acc.length c4 := by
            obtain ⟨A4, c4, e4, -⟩ := hac
            rw [List.length_map] at e4
            exact ⟨A4, c4, e4⟩
          obtain ⟨A4, c4, rfl⟩ := hlen4
          clear ho hnew hcell hcl hac
          cases f
          · rw [if_pos rfl] at hat
            have hRe : R = .error (2, p) := by rw [← HR.out, HE.out, hat]; rfl
            have HRe := Lib.hid hRe
            clear hat hRe
            go_wp2_with (first
              | (go_at_call 18; (with_reducible refine (HF.out _).mono ?_); rintro e w1 ⟨rfl, rfl⟩)
              | (go_at_call 17; (with_reducible refine (HSp.out _ _ _).mono ?_); rintro e w1 ⟨v, rfl, hsp, hb1⟩; have HSP := Lib.hid hsp; have HB1 := Lib.hid hb1; clear hsp hb1))
            rw [← HPe.out, HRe.out]
            exact ⟨v, rfl, HSP.out.spot, HB.out.trans (HB1.out.mono HB.out.size)⟩
          · rw [if_neg (by decide)] at hat
            by_cases h128 : acc.length = 128
            · rw [if_pos h128] at hat
              have hRe : R = .error (7, p) := by rw [← HR.out, HE.out, hat]; rfl
              have HRe := Lib.hid hRe
              have t1 : ((acc.length : Int) == 128) = true := by simp; omega
              clear hat hRe
              go_wp2_with (first
                | (go_at_call 18; (with_reducible refine (HF.out _).mono ?_); rintro e w1 ⟨rfl, rfl⟩)
                | (go_at_call 17; (with_reducible refine (HSp.out _ _ _).mono ?_); rintro e w1 ⟨v, rfl, hsp, hb1⟩; have HSP := Lib.hid hsp; have HB1 := Lib.hid hb1; clear hsp hb1))
              rw [← HPe.out, HRe.out]
              exact ⟨v, rfl, HSP.out.spot, HB.out.trans (HB1.out.mono HB.out.size)⟩
            · rw [if_neg h128] at hat
              have t1 : ((acc.length : Int) == 128) = false := by simp; omega
              have hsl : Sl wr wr.heap.size (some ⟨b, o, none⟩) (u8s bs) := (HS.out.below HB.out).more HB.out.size
              have hmx : ((x.toNat : Int) ≤ hi ∧ max hi (x.toNat : Int) = hi) ∨ (¬ (x.toNat : Int) ≤ hi ∧ max hi (x.toNat : Int) = (x.toNat : Int)) := by omega
              have hxr := Sect.fol_range hf hi0
              cases hu : Leb.uOf bs (p + 1) 32 with
              | none =>
                rw [hu] at hat
                have hRe : R = .error (2, p + 1) := by rw [← HR.out, HE.out, hat]; rfl
                have HRe := Lib.hid hRe
                have hsec := section_none (some ⟨b, o, none⟩) c bs (p + 1) wr hsl hc HM.out (by omega) hu
                unfold SecBad at hsec
                rw [show ((p + 1 : Nat) : Int) = (p : Int) + 1 from rfl] at hsec
                have HSec := Lib.hid hsec
                clear hat hRe hsec hu
                rcases hmx with ⟨hmx, -⟩ | ⟨hmx, -⟩
                all_goals
                  go_wp2_with (first
                    | (go_at_call 18; (with_reducible refine (HF.out _).mono ?_); rintro e w1 ⟨rfl, rfl⟩))
                  with_reducible refine HSec.out.mono ?_
                  rintro e w1 ⟨v, rfl, ⟨vb, vo, rfl, hv1, hv2⟩, hb1⟩
                  have HV := Lib.hid (⟨vb, vo, rfl, hv1, hv2⟩ : SpotIs w1 (.iface 56 (.pointer (some ⟨vb, vo, none⟩))) ((p : Int) + 1) 2)
                  have HB1 := Lib.hid (HB.out.trans (hb1.mono HB.out.size))
                  clear hv1 hv2 hb1
                  go_wp2_with fail
                  rw [← HPe.out, HRe.out]
                  exact ⟨_, rfl, SpotIs.below HV.out ((Below.refl _ _).alloc (Nat.le_refl _) _), HB1.out.alloc HB1.out.size _⟩
              | some q =>
                obtain ⟨k, j⟩ := q
                rw [hu] at hat
                dsimp only at hat
                by_cases hk : bs.length - j < k
                · rw [if_pos hk] at hat
                  have hRe : R = .error (2, p + 1) := by rw [← HR.out, HE.out, hat]; rfl
                  have HRe := Lib.hid hRe
                  have hsec := section_over (some ⟨b, o, none⟩) c bs (p + 1) wr hsl hc HM.out (by omega) k j hu hk
                  unfold SecBad at hsec
                  rw [show ((p + 1 : Nat) : Int) = (p : Int) + 1 from rfl] at hsec
                  have HSec := Lib.hid hsec
                  clear hat hRe hsec hu hk
                  rcases hmx with ⟨hmx, -⟩ | ⟨hmx, -⟩
                  all_goals
                    go_wp2_with (first
                      | (go_at_call 18; (with_reducible refine (HF.out _).mono ?_); rintro e w1 ⟨rfl, rfl⟩))
                    with_reducible refine HSec.out.mono ?_
                    rintro e w1 ⟨v, rfl, ⟨vb, vo, rfl, hv1, hv2⟩, hb1⟩
                    have HV := Lib.hid (⟨vb, vo, rfl, hv1, hv2⟩ : SpotIs w1 (.iface 56 (.pointer (some ⟨vb, vo, none⟩))) ((p : Int) + 1) 2)
                    have HB1 := Lib.hid (HB.out.trans (hb1.mono HB.out.size))
                    clear hv1 hv2 hb1
                    go_wp2_with fail
                    rw [← HPe.out, HRe.out]
                    exact ⟨_, rfl, SpotIs.below HV.out ((Below.refl _ _).alloc (Nat.le_refl _) _), HB1.out.alloc HB1.out.size _⟩
                · rw [if_neg hk] at hat
                  have hk' : k ≤ bs.length - j := by omega
                  have hj := Leb.uOf_le _ _ _ _ _ hu
                  have hjp := Sect.uOf_ge _ _ _ _ _ hu
                  have hsec := section_ok (some ⟨b, o, none⟩) c bs (p + 1) wr hsl hc HM.out (by omega) k j hu hk' hL
                  unfold SecGood at hsec
                  rw [show ((p + 1 : Nat) : Int) = (p : Int) + 1 from rfl] at hsec
                  obtain ⟨ys, hys⟩ : ∃ ys, (bs.drop j).take k = ys := ⟨_, rfl⟩
                  have hyl : ys.length = k := by rw [← hys]; simp; omega
                  rw [hys] at hsec hat
                  have HSec := Lib.hid hsec
                  have HAt := Lib.hid hat
                  have HYl := Lib.hid hyl
                  have hyl' : ys.length ≤ 100000000 := by omega
                  clear hat hsec hu hk hys hyl
                  rcases hmx with ⟨hmx, hme⟩ | ⟨hmx, hme⟩
                  all_goals
                    rw [hme] at HAt
                    go_wp2_with (first
                      | (go_at_call 18; (with_reducible refine (HF.out _).mono ?_); rintro e w1 ⟨rfl, rfl⟩))
                    with_reducible refine HSec.out.mono ?_
                    rintro e w1 ⟨A5, c5, rfl, ho5⟩
                    have HO5 := Lib.hid ho5
                    have HB1 := Lib.hid (HB.out.trans (ho5.below.mono HB.out.size))
                    have HB5 : Hid (Below wr.heap.size wr w1) := Lib.hid ho5.below
                    clear ho5
                    obtain ⟨v, hv⟩ : ∃ v, v = Value.slice A4 acc.length c4 := ⟨_, rfl⟩
                    rw [← hv] at HO HNew ⊢
                    clear hv
                    have HNv : Hid (v.ownBlock ≠ some w1.heap.size) := Lib.hid (fun e => by have := (HO.out.own_lt e).2; have := HB5.out.size; omega)
                    go_wp2_with (first
                      | (at_builtin; refine wpList_pushK rfl (.tmp 55) (.tmp 57) _ rfl 40 Tryd.underlying24 elem_sec (by decide) _ _ _ rfl (HO.out.later (HB5.out.alloc HB5.out.size _)) rfl (by simp) rfl (Sc.one ⟨x.toNat, j, A5, c5, ys⟩) (by rw [List.length_map]; omega) (by rw [List.length_map]; unfold maxLen; omega) ?_; intro v6 w6 ho6 hk6 hs6; have HO6 := Lib.hid ho6; have HK6 := Lib.hid hk6; have HS6 := Lib.hid hs6; have m1 : w6.cell? ⟨w1.heap.size, 1, none⟩ = some (.int .i64 j) := (World.cell?_of_block (hk6 w1.heap.size (by simp) HNv.out).1).trans (World.cell?_alloc_at _ _ _ _ rfl); have m2 : w6.cell? ⟨w1.heap.size, 2, none⟩ = some (.slice A5 ys.length c5) := (World.cell?_of_block (hk6 w1.heap.size (by simp) HNv.out).1).trans (World.cell?_alloc_at _ _ _ _ rfl); clear ho6 hk6 hs6))
                    go_roundw
                    case rel =>
                      have hyk := HYl.out
                      refine ⟨acc ++ [⟨x.toNat, j, A5, c5, ys⟩], t ++ [⟨x.toNat, j, ys⟩], _, j + k, rfl, by rw [hyk]; go_num, by omega, by omega, by omega, by omega, Lib.hid ?_, by simp; omega, by rw [List.map_append]; exact HO6.out, ?_, Lib.hid ?_⟩
                      · rw [List.map_append, List.map_append, HT.out]; rfl
                      · exact gather _ _ (by unfold inI; omega) (by unfold inI; omega) (fun g hg => (HO.out.own_lt hg).2) HB.out.size HNew.out HO5.out ((Below.refl _ _).alloc (Nat.le_refl _) _) HK6.out HS6.out
                      · rw [HE.out, HAt.out, Sect.pre_pre, List.length_append]; rfl
                    case measure => simp [intOf]; omega
        · go_wp2_with fail
          have hp' : p = bs.length := by omega
          have hRt : R = .ok t := by
            rw [← HR.out, HE.out, hp', List.drop_length, Sect.spl_nil]
            simp [Sect.pre]
          obtain ⟨A', c', rfl, h1, h2, h3⟩ := secs_of_own ho hnew
          rw [← HPe.out, hRt]
          exact ⟨A', acc, c', rfl, HT.out, h1, h2, h3, ho.below⟩
    · have e : Sect.split bs = .error (2, 0) := by
        unfold Sect.split
        rw [if_neg hmg]
      have hne : ((bs.take 8) == [0, 97, 115, 109, 1, 0, 0, 0]) = false := by simpa [Sect.magic] using hmg
      rw [e]
      unfold SplitR
      clear e hmg
      go_enter Tryd.func9, Tryd.ntmps9
      go_wp2_with (first | (go_at_call 17; (with_reducible refine (HSp.out _ _ _).mono ?_); rintro e w1 ⟨v, rfl, hsp, hb1⟩; have HSP := Lib.hid hsp; have HB := Lib.hid hb1; clear hsp hb1))
      go_ret2
      exact ⟨v, rfl, HSP.out.spot, HB.out⟩
end Go.Proofs.YthkdpcoacjgomaaDoor
