/- Contract of sect.section: what stands behind an Id. -/
import Derived.Test.YthkdpcoacjgomaaDoorSecB
import Derived.Test.YthkdpcoacjgomaaDoorLebT7
set_option linter.unusedVariables false
set_option linter.unusedSimpArgs false
namespace Go.Proofs.YthkdpcoacjgomaaDoor
open Go.RowKit Trx

/-- nothing was read: a Spot. -/
def SecBad (p k : Nat) (w : World) : Ending → World → Prop := fun e w' => ∃ v, e = .returned (.tuple #[.agg #[.int .i64 0, .int .i64 0, .slice none 0 0], v]) ∧ SpotIs w' v p k ∧ Below w.heap.size w w'
/-- so many bytes, that begin there, in memory of the call's own. -/
def SecGood (j : Nat) (bs : List UInt8) (w : World) : Ending → World → Prop := fun e w' => ∃ A c, e = .returned (.tuple #[.agg #[.int .i64 0, .int .i64 j, .slice A bs.length c], .nilIface]) ∧ OwB w w' (.slice A bs.length c) bs

/-- three cells of a block, set anew. -/
theorem set3 {w : World} {g : Nat} {x0 x1 x2 : Value} (a b c : Value) (h0 : w.cell? ⟨g, 0, none⟩ = some x0) (h1 : w.cell? ⟨g, 1, none⟩ = some x1) (h2 : w.cell? ⟨g, 2, none⟩ = some x2) :
    (((w.setCell ⟨g, 0, none⟩ a).setCell ⟨g, 1, none⟩ b).setCell ⟨g, 2, none⟩ c).cell? ⟨g, 0, none⟩ = some a ∧ (((w.setCell ⟨g, 0, none⟩ a).setCell ⟨g, 1, none⟩ b).setCell ⟨g, 2, none⟩ c).cell? ⟨g, 1, none⟩ = some b ∧
    (((w.setCell ⟨g, 0, none⟩ a).setCell ⟨g, 1, none⟩ b).setCell ⟨g, 2, none⟩ c).cell? ⟨g, 2, none⟩ = some c ∧ ∀ B, B ≤ g → Below B w (((w.setCell ⟨g, 0, none⟩ a).setCell ⟨g, 1, none⟩ b).setCell ⟨g, 2, none⟩ c) := by
  have n1 : ∀ i j : Nat, i ≠ j → (⟨g, i, none⟩ : Addr) ≠ ⟨g, j, none⟩ := fun i j h e => by injection e with _ e; omega
  have k1 := World.cell?_setCell_same w ⟨g, 0, none⟩ a h0
  have k2 : (w.setCell ⟨g, 0, none⟩ a).cell? ⟨g, 1, none⟩ = some x1 := (World.cell?_setCell_other _ _ _ _ (n1 _ _ (by omega))).trans h1
  have k3 := World.cell?_setCell_same _ ⟨g, 1, none⟩ b k2
  have k4 : ((w.setCell ⟨g, 0, none⟩ a).setCell ⟨g, 1, none⟩ b).cell? ⟨g, 2, none⟩ = some x2 := (World.cell?_setCell_other _ _ _ _ (n1 _ _ (by omega))).trans ((World.cell?_setCell_other _ _ _ _ (n1 _ _ (by omega))).trans h2)
  refine ⟨?_, (World.cell?_setCell_other _ _ _ _ (n1 _ _ (by omega))).trans k3, World.cell?_setCell_same _ _ _ k4, fun B hB => ?_⟩
  · exact (World.cell?_setCell_other _ _ _ _ (n1 _ _ (by omega))).trans ((World.cell?_setCell_other _ _ _ _ (n1 _ _ (by omega))).trans k1)
  · exact (((Below.refl B w).setCell (p := ⟨g, 0, none⟩) hB _).setCell (p := ⟨g, 1, none⟩) hB _).setCell (p := ⟨g, 2, none⟩) hB _
theorem Sl.cut {w : World} {B : Nat} {A : Option Addr} {bs : List UInt8} {c : Nat} (h : Sl w B A (u8s bs)) (hc : bs.length ≤ c) (j k : Nat) : Sl w B (if c = j then A else A.map (·.add j)) (u8s ((bs.drop j).take k)) := by
  rw [u8s_take, u8s_drop]
  exact (h.drop (by simpa using hc)).take k

set_option maxHeartbeats 4000000 in
set_option maxRecDepth 100000 in
theorem section_none (A : Option Addr) (c : Nat) (bs : List UInt8) (p : Nat) (w : World) (hs : Sl w w.heap.size A (u8s bs)) (hc : bs.length ≤ c) (hm : c ≤ maxLen) (hp : p ≤ bs.length) (hu : Leb.uOf bs p 32 = none) :
    Calls Tryd.prog 19 #[.slice A bs.length c, .int .i64 p] w (SecBad p 2 w) := by
  have HC := Lib.hid (fun (w' : World) (hb : Below w.heap.size w w') => U_int (w := w') (at_ := p) (bits := 32) none (hs.below hb) hb.size rfl hc hm (by decide) (by decide) (by omega) (by omega) (by simpa using hu))
  unfold luV at HC
  have HS := Lib.hid (fun w' => spot_any p 2 w')
  unfold SecBad
  clear hs hu
  go_enter Tryd.func19, Tryd.ntmps19
  go_wp2_with fail
  with_reducible refine (HC.out _ ((Below.refl _ _).alloc (Nat.le_refl _) _)).mono ?_
  rintro e w1 ⟨rfl, nq, hw1⟩
  have HB1 : Hid (Below w.heap.size w w1) := Lib.hid (by rw [hw1]; exact below_drewN ((Below.refl _ _).alloc (Nat.le_refl _) _) nq)
  have k1 : ∀ i, w1.cell? ⟨w.heap.size, i, none⟩ = (#[.int .i64 0, .int .i64 0, .slice none 0 0] : Array Value)[i]? := fun i => by rw [hw1]; exact World.cell?_alloc_at _ _ _ _ rfl
  have kf : ∀ i, w1.frozen? ⟨w.heap.size, i, none⟩ = false := fun i => by rw [hw1]; exact World.frozen?_alloc_at _ _ _ _ rfl
  have k10 : w1.cell? ⟨w.heap.size, 0, none⟩ = some (.int .i64 0) := k1 0
  have k11 : w1.cell? ⟨w.heap.size, 1, none⟩ = some (.int .i64 0) := k1 1
  have k12 : w1.cell? ⟨w.heap.size, 2, none⟩ = some (.slice none 0 0) := k1 2
  have hl1 : w.heap.size < w1.heap.size := by rw [hw1]; simp [World.drewN]
  clear hw1 k1
  go_wp2_with fail
  with_reducible refine (HS.out _).mono ?_
  rintro e w2 ⟨v, rfl, hsp, hb2⟩
  have m0 := (hb2.cell (p := ⟨w.heap.size, 0, none⟩) hl1).trans k10
  have m1 := (hb2.cell (p := ⟨w.heap.size, 1, none⟩) hl1).trans k11
  have m2 := (hb2.cell (p := ⟨w.heap.size, 2, none⟩) hl1).trans k12
  have mf : ∀ i, w2.frozen? ⟨w.heap.size, i, none⟩ = false := fun i => (hb2.frozen (p := ⟨w.heap.size, i, none⟩) hl1).trans (kf i)
  have hl2 := Nat.lt_of_lt_of_le hl1 hb2.size
  have HB2 := Lib.hid (HB1.out.trans (hb2.mono HB1.out.size))
  have HSp := Lib.hid hsp
  clear hsp hb2 k10 k11 k12 kf
  go_wp2_with fail
  obtain ⟨y0, y1, y2, hb3⟩ := set3 (.int .i64 0) (.int .i64 0) (.slice none 0 0) m0 m1 m2
  refine bodyPost_ret (v := .tuple #[.agg #[.int .i64 0, .int .i64 0, .slice none 0 0], v]) (by simp [results, Tryd.results19, go_sem, y0, y1, y2]) rfl ?_
  exact ⟨v, rfl, (((HSp.out.setCell hl1 0 _).setCell hl1 1 _).setCell hl1 2 _).spot, HB2.out.trans (hb3 _ (Nat.le_refl _))⟩
set_option maxHeartbeats 4000000 in
set_option maxRecDepth 100000 in
theorem section_over (A : Option Addr) (c : Nat) (bs : List UInt8) (p : Nat) (w : World) (hs : Sl w w.heap.size A (u8s bs)) (hc : bs.length ≤ c) (hm : c ≤ maxLen) (hp : p ≤ bs.length) (k j : Nat) (hu : Leb.uOf bs p 32 = some (k, j)) (hk : bs.length - j < k) :
    Calls Tryd.prog 19 #[.slice A bs.length c, .int .i64 p] w (SecBad p 2 w) := by
  have hj := Leb.uOf_le _ _ _ _ _ hu
  have hk64 := Leb.uOf_lt _ _ _ _ _ hu
  have HC := Lib.hid (fun (w' : World) (hb : Below w.heap.size w w') => U_int (w := w') (at_ := p) (bits := 32) (some (k, j)) (hs.below hb) hb.size rfl hc hm (by decide) (by decide) (by omega) (by omega) (by simpa using hu))
  unfold luV at HC
  have HS := Lib.hid (fun w' => spot_any p 2 w')
  unfold SecBad
  clear hs hu
  go_enter Tryd.func19, Tryd.ntmps19
  go_wp2_with fail
  with_reducible refine (HC.out _ ((Below.refl _ _).alloc (Nat.le_refl _) _)).mono ?_
  rintro e w1 ⟨rfl, nq, hw1⟩
  have HB1 : Hid (Below w.heap.size w w1) := Lib.hid (by rw [hw1]; exact below_drewN ((Below.refl _ _).alloc (Nat.le_refl _) _) nq)
  have k1 : ∀ i, w1.cell? ⟨w.heap.size, i, none⟩ = (#[.int .i64 0, .int .i64 0, .slice none 0 0] : Array Value)[i]? := fun i => by rw [hw1]; exact World.cell?_alloc_at _ _ _ _ rfl
  have kf : ∀ i, w1.frozen? ⟨w.heap.size, i, none⟩ = false := fun i => by rw [hw1]; exact World.frozen?_alloc_at _ _ _ _ rfl
  have k10 : w1.cell? ⟨w.heap.size, 0, none⟩ = some (.int .i64 0) := k1 0
  have k11 : w1.cell? ⟨w.heap.size, 1, none⟩ = some (.int .i64 0) := k1 1
  have k12 : w1.cell? ⟨w.heap.size, 2, none⟩ = some (.slice none 0 0) := k1 2
  have hl1 : w.heap.size < w1.heap.size := by rw [hw1]; simp [World.drewN]
  clear hw1 k1
  unfold maxLen at hm
  go_wp2_with fail
  with_reducible refine (HS.out _).mono ?_
  rintro e w2 ⟨v, rfl, hsp, hb2⟩
  have m0 := (hb2.cell (p := ⟨w.heap.size, 0, none⟩) hl1).trans k10
  have m1 := (hb2.cell (p := ⟨w.heap.size, 1, none⟩) hl1).trans k11
  have m2 := (hb2.cell (p := ⟨w.heap.size, 2, none⟩) hl1).trans k12
  have mf : ∀ i, w2.frozen? ⟨w.heap.size, i, none⟩ = false := fun i => (hb2.frozen (p := ⟨w.heap.size, i, none⟩) hl1).trans (kf i)
  have hl2 := Nat.lt_of_lt_of_le hl1 hb2.size
  have HB2 := Lib.hid (HB1.out.trans (hb2.mono HB1.out.size))
  have HSp := Lib.hid hsp
  clear hsp hb2 k10 k11 k12 kf
  go_wp2_with fail
  obtain ⟨y0, y1, y2, hb3⟩ := set3 (.int .i64 0) (.int .i64 0) (.slice none 0 0) m0 m1 m2
  refine bodyPost_ret (v := .tuple #[.agg #[.int .i64 0, .int .i64 0, .slice none 0 0], v]) (by simp [results, Tryd.results19, go_sem, y0, y1, y2]) rfl ?_
  exact ⟨v, rfl, (((HSp.out.setCell hl1 0 _).setCell hl1 1 _).setCell hl1 2 _).spot, HB2.out.trans (hb3 _ (Nat.le_refl _))⟩

set_option maxHeartbeats 4000000 in
set_option maxRecDepth 100000 in
theorem section_ok (A : Option Addr) (c : Nat) (bs : List UInt8) (p : Nat) (w : World) (hs : Sl w w.heap.size A (u8s bs)) (hc : bs.length ≤ c) (hm : c ≤ maxLen) (hp : p ≤ bs.length) (k j : Nat) (hu : Leb.uOf bs p 32 = some (k, j)) (hk : k ≤ bs.length - j) (hL : bs.length ≤ 100000000) :
    Calls Tryd.prog 19 #[.slice A bs.length c, .int .i64 p] w (SecGood j ((bs.drop j).take k) w) := by
  have hj := Leb.uOf_le _ _ _ _ _ hu
  have hlen : ((bs.drop j).take k).length = k := by simp; omega
  have HC := Lib.hid (fun (w' : World) (hb : Below w.heap.size w w') => U_int (w := w') (at_ := p) (bits := 32) (some (k, j)) (hs.below hb) hb.size rfl hc hm (by decide) (by decide) (by omega) (by omega) (by simpa using hu))
  unfold luV at HC
  have HN := Lib.hid (fun (w' : World) (hb : Below w.heap.size w w') => Clone_any (if c = j then A else A.map (·.add j)) (c - j) ((bs.drop j).take k) w' (((hs.below hb).more hb.size).cut hc j k) (by omega))
  rw [hlen] at HN
  unfold SecGood
  rw [hlen]
  have t1 : IntKind.i64.wrap ((j : Int) + (k : Int)) = ((j + k : Nat) : Int) := by
    unfold maxLen at hm; rw [IntWalk.i64_left]; unfold wrap64; omega
  have t2 : ((k : Int)).toNat = k := by simp
  have hjk : j + k ≤ c := by omega
  have hjk' : (j : Int) + k ≤ c := by omega
  have hkb : (k : Int) ≤ bs.length - j := by omega
  clear hs hu hlen
  unfold maxLen at hm
  by_cases hcj : c = j
  · rw [if_pos hcj, show c - j = 0 by omega] at HN
    subst hcj
    obtain rfl : k = 0 := by omega
    go_enter Tryd.func19, Tryd.ntmps19
    go_wp2_with fail
    with_reducible refine (HC.out _ ((Below.refl _ _).alloc (Nat.le_refl _) _)).mono ?_
    rintro e w1 ⟨rfl, nq, hw1⟩
    have HB1 : Hid (Below w.heap.size w w1) := Lib.hid (by rw [hw1]; exact below_drewN ((Below.refl _ _).alloc (Nat.le_refl _) _) nq)
    have k1 : ∀ i, w1.cell? ⟨w.heap.size, i, none⟩ = (#[.int .i64 0, .int .i64 0, .slice none 0 0] : Array Value)[i]? := fun i => by rw [hw1]; exact World.cell?_alloc_at _ _ _ _ rfl
    have kf : ∀ i, w1.frozen? ⟨w.heap.size, i, none⟩ = false := fun i => by rw [hw1]; exact World.frozen?_alloc_at _ _ _ _ rfl
    have k10 : w1.cell? ⟨w.heap.size, 0, none⟩ = some (.int .i64 0) := k1 0
    have k11 : w1.cell? ⟨w.heap.size, 1, none⟩ = some (.int .i64 0) := k1 1
    have k12 : w1.cell? ⟨w.heap.size, 2, none⟩ = some (.slice none 0 0) := k1 2
    have hl1 : w.heap.size < w1.heap.size := by rw [hw1]; simp [World.drewN]
    clear hw1 k1
    go_wp2_with fail
    with_reducible refine (HN.out _ HB1.out).mono ?_
    rintro e w2 ⟨A', c', rfl, ho⟩
    have hb2 := ho.below
    have m0 := (hb2.cell (p := ⟨w.heap.size, 0, none⟩) hl1).trans k10
    have m1 := (hb2.cell (p := ⟨w.heap.size, 1, none⟩) hl1).trans k11
    have m2 := (hb2.cell (p := ⟨w.heap.size, 2, none⟩) hl1).trans k12
    have mf : ∀ i, w2.frozen? ⟨w.heap.size, i, none⟩ = false := fun i => (hb2.frozen (p := ⟨w.heap.size, i, none⟩) hl1).trans (kf i)
    have hl2 := Nat.lt_of_lt_of_le hl1 hb2.size
    have hne : (Value.slice A' 0 c').ownBlock ≠ some w.heap.size := ho.old hl1
    have HB2 := Lib.hid (HB1.out.trans (hb2.mono HB1.out.size))
    have HO := Lib.hid (OwnK.base ho HB1.out.size HB1.out)
    have HNe := Lib.hid hne
    clear ho hb2 k10 k11 k12 kf hne
    go_wp2_with fail
    obtain ⟨y0, y1, y2, hb3⟩ := set3 (.int .i64 0) (.int .i64 c) (.slice A' 0 c') m0 m1 m2
    refine bodyPost_ret (v := .tuple #[.agg #[.int .i64 0, .int .i64 c, .slice A' 0 c'], .nilIface]) (by simp [results, Tryd.results19, go_sem, y0, y1, y2]) rfl ?_
    exact ⟨A', c', rfl, ((HO.out.setOther (Nat.le_refl _) HNe.out 0 _).setOther (Nat.le_refl _) HNe.out 1 _).setOther (Nat.le_refl _) HNe.out 2 _⟩
  · rw [if_neg hcj] at HN
    go_enter Tryd.func19, Tryd.ntmps19
    go_wp2_with fail
    with_reducible refine (HC.out _ ((Below.refl _ _).alloc (Nat.le_refl _) _)).mono ?_
    rintro e w1 ⟨rfl, nq, hw1⟩
    have HB1 : Hid (Below w.heap.size w w1) := Lib.hid (by rw [hw1]; exact below_drewN ((Below.refl _ _).alloc (Nat.le_refl _) _) nq)
    have k1 : ∀ i, w1.cell? ⟨w.heap.size, i, none⟩ = (#[.int .i64 0, .int .i64 0, .slice none 0 0] : Array Value)[i]? := fun i => by rw [hw1]; exact World.cell?_alloc_at _ _ _ _ rfl
    have kf : ∀ i, w1.frozen? ⟨w.heap.size, i, none⟩ = false := fun i => by rw [hw1]; exact World.frozen?_alloc_at _ _ _ _ rfl
    have k10 : w1.cell? ⟨w.heap.size, 0, none⟩ = some (.int .i64 0) := k1 0
    have k11 : w1.cell? ⟨w.heap.size, 1, none⟩ = some (.int .i64 0) := k1 1
    have k12 : w1.cell? ⟨w.heap.size, 2, none⟩ = some (.slice none 0 0) := k1 2
    have hl1 : w.heap.size < w1.heap.size := by rw [hw1]; simp [World.drewN]
    clear hw1 k1
    go_wp2_with fail
    with_reducible refine (HN.out _ HB1.out).mono ?_
    rintro e w2 ⟨A', c', rfl, ho⟩
    have hb2 := ho.below
    have m0 := (hb2.cell (p := ⟨w.heap.size, 0, none⟩) hl1).trans k10
    have m1 := (hb2.cell (p := ⟨w.heap.size, 1, none⟩) hl1).trans k11
    have m2 := (hb2.cell (p := ⟨w.heap.size, 2, none⟩) hl1).trans k12
    have mf : ∀ i, w2.frozen? ⟨w.heap.size, i, none⟩ = false := fun i => (hb2.frozen (p := ⟨w.heap.size, i, none⟩) hl1).trans (kf i)
    have hl2 := Nat.lt_of_lt_of_le hl1 hb2.size
    have hne : (Value.slice A' k c').ownBlock ≠ some w.heap.size := ho.old hl1
    have HB2 := Lib.hid (HB1.out.trans (hb2.mono HB1.out.size))
    have HO := Lib.hid (OwnK.base ho HB1.out.size HB1.out)
    have HNe := Lib.hid hne
    clear ho hb2 k10 k11 k12 kf hne
    go_wp2_with fail
    obtain ⟨y0, y1, y2, hb3⟩ := set3 (.int .i64 0) (.int .i64 j) (.slice A' k c') m0 m1 m2
    refine bodyPost_ret (v := .tuple #[.agg #[.int .i64 0, .int .i64 j, .slice A' k c'], .nilIface]) (by simp [results, Tryd.results19, go_sem, y0, y1, y2]) rfl ?_
    exact ⟨A', c', rfl, ((HO.out.setOther (Nat.le_refl _) HNe.out 0 _).setOther (Nat.le_refl _) HNe.out 1 _).setOther (Nat.le_refl _) HNe.out 2 _⟩
end Go.Proofs.YthkdpcoacjgomaaDoor
