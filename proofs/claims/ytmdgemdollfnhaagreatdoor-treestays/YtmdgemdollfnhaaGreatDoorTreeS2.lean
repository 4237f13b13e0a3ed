/- Contracts of tree.sameIns, slices.EqualFunc of instructions, tree.sameCode. -/
import Derived.Test.YtmdgemdollfnhaaGreatDoorTreeS1
namespace Go.Proofs.YtmdgemdollfnhaaGreatDoor
open Go.RowKit Trx

theorem two_box {w w1 : World} {c d : Array Value} {t u : TypeId} (h : Below ((w.alloc (.cells c t)).alloc (.cells d u)).heap.size ((w.alloc (.cells c t)).alloc (.cells d u)) w1) :
    w.heap.size + 1 < w1.heap.size ∧ (∀ i, w1.cell? ⟨w.heap.size, i, none⟩ = c[i]?) ∧ (∀ i, w1.cell? ⟨w.heap.size + 1, i, none⟩ = d[i]?) ∧ Below w.heap.size w w1 := by
  refine ⟨by have := h.size; simp at this; omega, fun i => ?_, fun i => ?_, (((Below.refl _ _).alloc (Nat.le_refl _) _).alloc (by simp) _).trans (h.mono (by simp; omega))⟩
  · rw [h.cell (p := ⟨w.heap.size, i, none⟩) (by simp; omega), World.cell?_alloc_past _ _ _ (by simp), World.cell?_alloc_at _ _ _ _ rfl]
  · exact (h.cell (p := ⟨w.heap.size + 1, i, none⟩) (by simp)).trans (World.cell?_alloc_at _ _ _ _ (by simp))

theorem Nd.ext_ {n m : Nd} : n = m ↔ n.op = m.op ∧ n.a = m.a ∧ n.b = m.b ∧ n.v = m.v ∧ n.t = m.t ∧ n.he = m.he ∧ n.L = m.L ∧ n.body = m.body ∧ n.els = m.els := by
  cases n; cases m; simp only [Nd.mk.injEq]; constructor <;> (rintro ⟨h1, h2, h3, h4, h5, h6, h7, h8, h9⟩; simp_all)
theorem bnot_eq {a b : Bool} (h : (a == b) = false) : a ≠ b := by cases a <;> cases b <;> simp_all

set_option maxHeartbeats 16000000 in
set_option maxRecDepth 100000 in
theorem sameIns_any (i k : In) (w : World) (hi : i.ok w w.heap.size) (hk : k.ok w w.heap.size)
    (HB : ∀ w', Below w.heap.size w w' → Calls Tryz.prog 64 #[.slice i.p.Ab (len i.n.body) i.p.cb, .slice k.p.Ab (len k.n.body) k.p.cb] w' (Tells (i.n.body = k.n.body) w'))
    (HE : ∀ w', Below w.heap.size w w' → Calls Tryz.prog 64 #[.slice i.p.Ae (len i.n.els) i.p.ce, .slice k.p.Ae (len k.n.els) k.p.ce] w' (Tells (i.n.els = k.n.els) w')) :
    Calls Tryz.prog 65 #[inA i, inA k] w (Tells (i.n = k.n) w) := by
  have HI := Lib.hid (fun w' (h : Below w.heap.size w w') => eqInt_any ⟨i.n.L, i.p.AL, i.p.cL⟩ ⟨k.n.L, k.p.AL, k.p.cL⟩ w'
    ⟨hi.nd.num.hL, hi.nd.num.cL, hi.light.L, hi.nd.num.L, (hi.nd.num.sL.below h).more h.size⟩ ⟨hk.nd.num.hL, hk.nd.num.cL, hk.light.L, hk.nd.num.L, (hk.nd.num.sL.below h).more h.size⟩)
  simp only at HI
  have HB := Lib.hid HB
  have HE := Lib.hid HE
  have HX := Lib.hid (Nd.ext_ (n := i.n) (m := k.n))
  unfold inA
  clear hi hk
  by_cases g1 : i.n.op = k.n.op
  rotate_left
  · have HN := Lib.hid (show i.n ≠ k.n from fun e => g1 (by rw [e]))
    have tt : (i.n.op == k.n.op) = false := by simpa using g1
    clear g1
    go_enter Tryz.func65, Tryz.ntmps65
    go_wp2_with fail
    go_ret
    exact Tells.mk_ _ (by simp; exact HN.out) (((Below.refl _ _).alloc (Nat.le_refl _) _).alloc (by simp) _)
  by_cases g2 : i.n.a = k.n.a
  rotate_left
  · have HN := Lib.hid (show i.n ≠ k.n from fun e => g2 (by rw [e]))
    have tt : (i.n.a == k.n.a) = false := by simpa using g2
    have t1 : (k.n.op == k.n.op) = true := by simp
    rw [g1]
    clear g1 g2
    go_enter Tryz.func65, Tryz.ntmps65
    go_wp2_with fail
    go_ret
    exact Tells.mk_ _ (by simp; exact HN.out) (((Below.refl _ _).alloc (Nat.le_refl _) _).alloc (by simp) _)
  by_cases g3 : i.n.b = k.n.b
  rotate_left
  · have HN := Lib.hid (show i.n ≠ k.n from fun e => g3 (by rw [e]))
    have tt : (i.n.b == k.n.b) = false := by simpa using g3
    have t1 : (k.n.op == k.n.op) = true := by simp
    have t2 : (k.n.a == k.n.a) = true := by simp
    rw [g1, g2]
    clear g1 g2 g3
    go_enter Tryz.func65, Tryz.ntmps65
    go_wp2_with fail
    go_ret
    exact Tells.mk_ _ (by simp; exact HN.out) (((Below.refl _ _).alloc (Nat.le_refl _) _).alloc (by simp) _)
  by_cases g4 : i.n.v = k.n.v
  rotate_left
  · have HN := Lib.hid (show i.n ≠ k.n from fun e => g4 (by rw [e]))
    have tt : (i.n.v == k.n.v) = false := by simpa using g4
    have t1 : (k.n.op == k.n.op) = true := by simp
    have t2 : (k.n.a == k.n.a) = true := by simp
    have t3 : (k.n.b == k.n.b) = true := by simp
    rw [g1, g2, g3]
    clear g1 g2 g3 g4
    go_enter Tryz.func65, Tryz.ntmps65
    go_wp2_with fail
    go_ret
    exact Tells.mk_ _ (by simp; exact HN.out) (((Below.refl _ _).alloc (Nat.le_refl _) _).alloc (by simp) _)
  by_cases g5 : i.n.t = k.n.t
  rotate_left
  · have HN := Lib.hid (show i.n ≠ k.n from fun e => g5 (by rw [e]))
    have tt : (i.n.t == k.n.t) = false := by simpa using g5
    have t1 : (k.n.op == k.n.op) = true := by simp
    have t2 : (k.n.a == k.n.a) = true := by simp
    have t3 : (k.n.b == k.n.b) = true := by simp
    have t4 : (k.n.v == k.n.v) = true := by simp
    rw [g1, g2, g3, g4]
    clear g1 g2 g3 g4 g5
    go_enter Tryz.func65, Tryz.ntmps65
    go_wp2_with fail
    go_ret
    exact Tells.mk_ _ (by simp; exact HN.out) (((Below.refl _ _).alloc (Nat.le_refl _) _).alloc (by simp) _)
  by_cases g6 : i.n.he = k.n.he
  rotate_left
  · have HN := Lib.hid (show i.n ≠ k.n from fun e => g6 (by rw [e]))
    have tt : (i.n.he == k.n.he) = false := by revert g6; cases i.n.he <;> cases k.n.he <;> simp
    have t1 : (k.n.op == k.n.op) = true := by simp
    have t2 : (k.n.a == k.n.a) = true := by simp
    have t3 : (k.n.b == k.n.b) = true := by simp
    have t4 : (k.n.v == k.n.v) = true := by simp
    have t5 : (k.n.t == k.n.t) = true := by simp
    rw [g1, g2, g3, g4, g5]
    clear g1 g2 g3 g4 g5 g6
    go_enter Tryz.func65, Tryz.ntmps65
    go_wp2_with fail
    go_ret
    exact Tells.mk_ _ (by simp; exact HN.out) (((Below.refl _ _).alloc (Nat.le_refl _) _).alloc (by simp) _)
  have HH := Lib.hid (show i.n.op = k.n.op ∧ i.n.a = k.n.a ∧ i.n.b = k.n.b ∧ i.n.v = k.n.v ∧ i.n.t = k.n.t ∧ i.n.he = k.n.he from ⟨g1, g2, g3, g4, g5, g6⟩)
  rw [g1, g2, g3, g4, g5, g6]
  have t1 : (k.n.op == k.n.op) = true := by simp
  have t2 : (k.n.a == k.n.a) = true := by simp
  have t3 : (k.n.b == k.n.b) = true := by simp
  have t4 : (k.n.v == k.n.v) = true := by simp
  have t5 : (k.n.t == k.n.t) = true := by simp
  have t6 : (k.n.he == k.n.he) = true := by simp
  clear g1 g2 g3 g4 g5 g6
  go_enter Tryz.func65, Tryz.ntmps65
  go_wp2_with (first
    | (go_at_call 63; refine (HI.out _ (((Below.refl _ _).alloc (Nat.le_refl _) _).alloc (by simp) _)).mono ?_; rintro e w1 ⟨⟨b1, rfl, hb1⟩, hbel⟩; obtain ⟨hlt1, hc, hd, hw⟩ := two_box hbel; have c6 := hc 6; have c7 := hc 7; have d6 := hd 6; have d7 := hd 7; have HP1 := Lib.hid hb1; have HW1 := Lib.hid hw; simp at c6 c7 d6 d7; clear hbel hc hd hw hb1)
    | (go_at_call 64; ((with_reducible refine (HB.out _ HW1.out).mono ?_); rintro e w2 ⟨⟨b2, rfl, hb2⟩, hbel⟩; have c7' := (hbel.cell (p := ⟨w.heap.size, 7, none⟩) (Nat.lt_of_succ_lt hlt1)).trans c7; have d7' := (hbel.cell (p := ⟨w.heap.size + 1, 7, none⟩) hlt1).trans d7; have hlt2 := Nat.lt_of_lt_of_le hlt1 hbel.size; have HP2 := Lib.hid hb2; have HW2 := Lib.hid (HW1.out.trans (hbel.mono HW1.out.size)); clear hbel hb2))
    | (go_at_call 64; ((with_reducible refine (HE.out _ HW2.out).mono ?_); rintro e w3 ⟨⟨b3, rfl, hb3⟩, hbel⟩; have HP3 := Lib.hid hb3; have HW3 := Lib.hid (HW2.out.trans (hbel.mono HW2.out.size)); clear hbel hb3)))
  all_goals
    go_ret
    first
    | exact Tells.mk_ _ (by rw [HX.out]; have h := HH.out; have p1 := HP1.out; have p2 := HP2.out; have p3 := HP3.out; simp_all) HW3.out
    | exact Tells.mk_ _ (by rw [HX.out]; have h := HH.out; have p1 := HP1.out; have p2 := HP2.out; simp_all) HW2.out
    | exact Tells.mk_ _ (by rw [HX.out]; have h := HH.out; have p1 := HP1.out; simp_all) HW1.out

theorem nds_ext {f g : Fo} (h : nds f = nds g) : f = g := by rw [← ofN_nds f, ← ofN_nds g, h]

set_option maxHeartbeats 16000000 in
set_option maxRecDepth 100000 in
theorem eqIns_any (f g : Fo) (A1 A2 : Option Addr) (c1 c2 : Nat) (w : World) (h1 : RdS w w.heap.size A1 f) (h2 : RdS w w.heap.size A2 g) (l1 : Light f) (l2 : Light g) (m1 : len f ≤ maxLen) (m2 : len g ≤ maxLen)
    (H : ∀ (i k : In) (w' : World), i.n ∈ nds f → k.n ∈ nds g → i.ok w w.heap.size → k.ok w w.heap.size → Below w.heap.size w w' → Calls Tryz.prog 65 #[inA i, inA k] w' (Tells (i.n = k.n) w')) :
    Calls Tryz.prog 72 #[.slice A1 (len f) c1, .slice A2 (len g) c2, .func (.func 65) #[] #[]] w (Tells (f = g) w) := by
  unfold maxLen at m1 m2
  have H1 := Lib.hid h1
  have H2 := Lib.hid h2
  have HL1 := Lib.hid l1
  have HL2 := Lib.hid l2
  have HH := Lib.hid H
  unfold inA at HH
  clear h1 h2 l1 l2 H
  by_cases hl : len f = len g
  · rw [← hl]
    have tl : ((len f : Int) != (len f : Int)) = false := by simp
    have HL := Lib.hid hl
    clear hl
    go_enter Tryz.func72, Tryz.ntmps72
    go_wp2_with fail
    go_loopw [17] (fun i wr => ∃ j : Nat, j ≤ len f ∧ i = .int .i64 j ∧ (nds f).take j = (nds g).take j ∧ Below w.heap.size w wr) (fun i _ => len f - (intOf i).toNat)
    case atStart => exact ⟨0, by omega, rfl, by simp, Below.refl _ _⟩
    case round =>
      obtain ⟨j, hj, rfl, heq, hbel⟩ := hrel
      have HE := Lib.hid heq
      clear heq
      by_cases hlt : j < len f
      · obtain ⟨b, o, n, p, hA, hn, hat0⟩ := H1.out.at_ hlt
        obtain ⟨b', o', n', p', hA', hn', hat0'⟩ := H2.out.at_ (show j < len g by have := HL.out; omega)
        obtain ⟨q0, q1, q2, q3, q4, q5, q6, q7, q8⟩ := (hat0.below hbel).nine
        obtain ⟨r0, r1, r2, r3, r4, r5, r6, r7, r8⟩ := (hat0'.below hbel).nine
        have hb := Nat.lt_of_lt_of_le hat0.lt hbel.size
        have hb' := Nat.lt_of_lt_of_le hat0'.lt hbel.size
        have HC := Lib.hid (fun w' (h : Below w.heap.size w w') => HH.out ⟨n, p⟩ ⟨n', p'⟩ w' (List.mem_of_getElem? hn) (List.mem_of_getElem? hn') ⟨hat0.ok, HL1.out.mem (List.mem_of_getElem? hn)⟩ ⟨hat0'.ok, HL2.out.mem (List.mem_of_getElem? hn')⟩ h)
        simp only at HC
        have hs1 : (nds f).take (j + 1) = (nds f).take j ++ [n] := by rw [List.take_add_one, hn]; rfl
        have hs2 : (nds g).take (j + 1) = (nds g).take j ++ [n'] := by rw [List.take_add_one, hn']; rfl
        have hne : n ≠ n' → f ≠ g := fun h e => h (by subst e; exact Option.some.inj (hn.symm.trans hn'))
        have HS1 := Lib.hid hs1
        have HS2 := Lib.hid hs2
        have HNE := Lib.hid hne
        have HB := Lib.hid hbel
        have hsz := hbel.size
        rw [hA, hA']
        clear hat0 hat0' hbel hn hn' HH hs1 hs2 hne hA hA'
        go_wp2_with (go_at_call 65; refine (HC.out _ ((HB.out.alloc hsz _).alloc (by simp; omega) _)).mono ?_; rintro e w1 ⟨⟨b1, rfl, hb1⟩, hbel⟩; have HP := Lib.hid hb1; have HB1 := Lib.hid ((((HB.out.alloc hsz _).alloc (by simp; omega) _)).trans (hbel.mono (by simp; omega))); clear hbel hb1)
        all_goals first
          | (rename_i hq; go_ret; exact Tells.mk_ _ (by simp; exact HNE.out fun e => absurd (HP.out.2 e) (by simpa using hq)) HB1.out)
          | skip
        rename_i hq
        go_roundw
        case rel => exact ⟨j + 1, by omega, by go_num, by rw [HS1.out, HS2.out, HE.out, HP.out.1 (by simpa using hq)], HB1.out⟩
        case measure => simp [intOf]; omega
      · have h1 := List.take_of_length_le (l := nds f) (i := j) (by unfold len at *; omega)
        have h2 := List.take_of_length_le (l := nds g) (i := j) (by have := HL.out; unfold len at *; omega)
        have HF := Lib.hid (show f = g from nds_ext (by rw [← h1, ← h2]; exact HE.out))
        have HB := Lib.hid hbel
        clear h1 h2 hbel
        go_wp2_with fail
        go_ret
        exact Tells.mk_ _ (by simp; exact HF.out) HB.out
  · have tl : ((len f : Int) != (len g : Int)) = true := by simp; omega
    have hne : f ≠ g := fun e => hl (by rw [e])
    have HNE := Lib.hid hne
    clear hne
    go_enter Tryz.func72, Tryz.ntmps72
    go_wp2_with fail
    go_ret
    exact Tells.mk_ _ (by simp; exact HNE.out) (Below.refl _ _)

set_option maxHeartbeats 8000000 in
set_option maxRecDepth 100000 in
theorem sameCode_any (q : Nat) : ∀ (f g : Fo) (A1 A2 : Option Addr) (c1 c2 : Nat) (w : World), cnt f ≤ q → RdS w w.heap.size A1 f → RdS w w.heap.size A2 g → Light f → Light g → len f ≤ maxLen → len g ≤ maxLen →
    Calls Tryz.prog 64 #[.slice A1 (len f) c1, .slice A2 (len g) c2] w (Tells (f = g) w) := by
  induction q using Nat.strongRecOn with
  | ind q ih =>
    intro f g A1 A2 c1 c2 w hq h1 h2 l1 l2 m1 m2
    have HE := Lib.hid (eqIns_any f g A1 A2 c1 c2 w h1 h2 l1 l2 m1 m2 (fun i k w' hi hk oi ok hb => sameIns_any i k w' (oi.keep hb.size (Below.kp hb)) (ok.keep hb.size (Below.kp hb))
      (fun w'' hb2 => ih _ (Nat.lt_of_lt_of_le (cnt_mem hi).1 hq) i.n.body k.n.body _ _ _ _ w'' (Nat.le_refl _) (((oi.nd.body.below hb).more hb.size).below hb2 |>.more hb2.size) (((ok.nd.body.below hb).more hb.size).below hb2 |>.more hb2.size) oi.light.body ok.light.body (Nat.le_trans oi.nd.num.hb oi.nd.num.cb) (Nat.le_trans ok.nd.num.hb ok.nd.num.cb))
      (fun w'' hb2 => ih _ (Nat.lt_of_lt_of_le (cnt_mem hi).2 hq) i.n.els k.n.els _ _ _ _ w'' (Nat.le_refl _) (((oi.nd.els.below hb).more hb.size).below hb2 |>.more hb2.size) (((ok.nd.els.below hb).more hb.size).below hb2 |>.more hb2.size) oi.light.els ok.light.els (Nat.le_trans oi.nd.num.he oi.nd.num.ce) (Nat.le_trans ok.nd.num.he ok.nd.num.ce))))
    clear ih h1 h2 l1 l2
    go_enter Tryz.func64, Tryz.ntmps64
    go_wp2_with (go_at_call 72; refine HE.out.mono ?_; rintro e w' ⟨⟨b, rfl, hb⟩, hbel⟩)
    go_ret
    exact Tells.mk_ _ hb hbel
end Go.Proofs.YtmdgemdollfnhaaGreatDoor
