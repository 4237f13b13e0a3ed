/- Contracts of the reference's Ints and SameIns of two that are the same. -/
import Derived.Test.YtmdgemdollfnhaaGreatDoorTreeS6
import Derived.Test.YtmdgemdollfnhaaGreatDoorTreeQ
import Derived.Test.YtmdgemdollfnhaaGreatDoorErrs
namespace Go.Proofs.YtmdgemdollfnhaaGreatDoor
open Go.RowKit Trx

set_option maxHeartbeats 8000000 in
set_option maxRecDepth 100000 in
/-- two lists of numbers that are the same. -/
theorem Ints_same (zs : List Int) (A1 A2 : Option Addr) (c1 c2 : Nat) (w : World) (h1 : Sl w w.heap.size A1 (n64s zs)) (h2 : Sl w w.heap.size A2 (n64s zs)) (hm : zs.length ≤ maxLen) :
    Calls Tryz.prog 51 #[.slice A1 zs.length c1, .slice A2 zs.length c2] w fun e w' => e = .returned (.bool true) ∧ ∃ n, w' = w.drewN n := by
  unfold maxLen at hm
  have H1 := Lib.hid h1
  have H2 := Lib.hid h2
  clear h1 h2
  go_enter Tryz.func51, Tryz.ntmps51
  go_wp2_with fail
  go_loopw [5] (fun i wr => ∃ (j n : Nat), j ≤ zs.length ∧ i = .int .i64 j ∧ wr = w.drewN n) (fun i _ => zs.length - (intOf i).toNat)
  case atStart => exact ⟨0, 0, by omega, rfl, rfl⟩
  case round =>
    obtain ⟨j, n, hj, rfl, rfl⟩ := hrel
    by_cases hlt : j < zs.length
    · have hne : n64s zs ≠ [] := by intro e; have := congrArg List.length e; rw [n64s_length, List.length_nil] at this; omega
      obtain ⟨b1, o1, rfl, hb1, hc1⟩ := H1.out hne
      obtain ⟨b2, o2, rfl, hb2, hc2⟩ := H2.out hne
      have hg : (n64s zs)[j]? = some (.int .i64 zs[j]) := by simp [n64s, hlt]
      have q1 : (w.drewN n).cell? ⟨b1, o1 + j, none⟩ = some (.int .i64 zs[j]) := (hc1 j (by simpa using hlt)).trans hg
      have q2 : (w.drewN n).cell? ⟨b2, o2 + j, none⟩ = some (.int .i64 zs[j]) := (hc2 j (by simpa using hlt)).trans hg
      obtain ⟨z, hz⟩ : ∃ z, z = zs[j] := ⟨_, rfl⟩
      rw [← hz] at q1 q2
      have tz : (z != z) = false := by simp
      obtain ⟨w0, hw0⟩ : ∃ w0, w0 = w.drewN n := ⟨_, rfl⟩
      have hb1' : b1 < w0.heap.size := by rw [hw0]; exact hb1
      have hb2' : b2 < w0.heap.size := by rw [hw0]; exact hb2
      rw [← hw0] at q1 q2 ⊢
      have HW := Lib.hid hw0
      clear hz hc1 hc2 hg hne hw0
      go_wp2_with fail
      go_quiet (fail)
      go_wp2_with fail
      go_roundw
      case rel => exact ⟨j + 1, n + nq, by omega, by go_num, by rw [HW.out, World.drewN_drewN]⟩
      case measure => simp [intOf]; omega
    · go_wp2_with fail
      go_ret
      exact ⟨rfl, n, rfl⟩
theorem Ints_below (zs : List Int) (A1 A2 : Option Addr) (c1 c2 : Nat) (w : World) (h1 : Sl w w.heap.size A1 (n64s zs)) (h2 : Sl w w.heap.size A2 (n64s zs)) (hm : zs.length ≤ maxLen) :
    Calls Tryz.prog 51 #[.slice A1 zs.length c1, .slice A2 zs.length c2] w fun e w' => e = .returned (.bool true) ∧ Below w.heap.size w w' := by
  refine (Ints_same zs A1 A2 c1 c2 w h1 h2 hm).mono ?_
  rintro e w' ⟨rfl, n, rfl⟩
  exact ⟨rfl, below_drewN _ _⟩
set_option maxHeartbeats 8000000 in
set_option maxRecDepth 100000 in
theorem SameIns_same (k : Nat) : ∀ (f : Fo) (A1 A2 : Option Addr) (c1 c2 : Nat) (w : World), cnt f ≤ k → RdS w w.heap.size A1 f → RdS w w.heap.size A2 f → len f ≤ maxLen →
    Calls Tryz.prog 52 #[.slice A1 (len f) c1, .slice A2 (len f) c2] w fun e w' => e = .returned (.bool true) ∧ Below w.heap.size w w' := by
  induction k using Nat.strongRecOn with
  | ind k ih =>
    intro f A1 A2 c1 c2 w hk h1 h2 hm
    unfold maxLen at hm
    have H1 := Lib.hid h1
    have H2 := Lib.hid h2
    have HIH := Lib.hid ih
    clear ih h1 h2
    have tl : ((len f : Int) != (len f : Int)) = false := by simp
    go_enter Tryz.func52, Tryz.ntmps52
    go_wp2_with fail
    go_loopw [5] (fun i wr => ∃ j : Nat, j ≤ len f ∧ i = .int .i64 j ∧ Below w.heap.size w wr) (fun i _ => len f - (intOf i).toNat)
    case atStart => exact ⟨0, by omega, rfl, Below.refl _ _⟩
    case round =>
      obtain ⟨j, hj, rfl, hbel⟩ := hrel
      by_cases hlt : j < len f
      · obtain ⟨b1, o1, n, p1, rfl, hn, at1⟩ := H1.out.at_ hlt
        obtain ⟨b2, o2, n', p2, rfl, hn', at2⟩ := H2.out.at_ hlt
        have hnn : n = n' := Option.some.inj (hn.symm.trans hn')
        subst hnn
        obtain ⟨q0, q1, q2, q3, q4, q5, q6, q7, q8⟩ := (at1.below hbel).nine
        obtain ⟨r0, r1, r2, r3, r4, r5, r6, r7, r8⟩ := (at2.below hbel).nine
        have hb1 := Nat.lt_of_lt_of_le at1.lt hbel.size
        have hb2 := Nat.lt_of_lt_of_le at2.lt hbel.size
        have hmem : n ∈ nds f := List.mem_of_getElem? hn
        have ok1 := at1.ok
        have ok2 := at2.ok
        have HI := Lib.hid (fun w' (hb : Below w.heap.size w w') => Ints_below n.L p1.AL p2.AL p1.cL p2.cL w' ((ok1.num.sL.below hb).more hb.size) ((ok2.num.sL.below hb).more hb.size) (Nat.le_trans ok1.num.hL ok1.num.cL))
        have HB := Lib.hid (fun w' (hb : Below w.heap.size w w') => HIH.out _ (Nat.lt_of_lt_of_le (cnt_mem hmem).1 hk) n.body p1.Ab p2.Ab p1.cb p2.cb w' (Nat.le_refl _) ((ok1.body.below hb).more hb.size) ((ok2.body.below hb).more hb.size) (Nat.le_trans ok1.num.hb ok1.num.cb))
        have HE := Lib.hid (fun w' (hb : Below w.heap.size w w') => HIH.out _ (Nat.lt_of_lt_of_le (cnt_mem hmem).2 hk) n.els p1.Ae p2.Ae p1.ce p2.ce w' (Nat.le_refl _) ((ok1.els.below hb).more hb.size) ((ok2.els.below hb).more hb.size) (Nat.le_trans ok1.num.he ok1.num.ce))
        have HBel := Lib.hid hbel
        have hsz := hbel.size
        clear at1 at2 hbel hn hn' hmem ok1 ok2 HIH
        have t0 : (n.op != n.op) = false := by simp
        have t1 : (n.a != n.a) = false := by simp
        have t2 : (n.b != n.b) = false := by simp
        have t3 : (n.v != n.v) = false := by simp
        have t4 : (n.t != n.t) = false := by simp
        have t8 : (n.he != n.he) = false := by simp
        go_wp2_with (first
          | (go_at_call 51; ((with_reducible refine (HI.out _ ((HBel.out.alloc hsz _).alloc (by simp; omega) _)).mono ?_); rintro e w1 ⟨rfl, hb1⟩; have HKw1 := Lib.hid (show Bxs wr #[.int .i64 n.op, .int .i64 n.a, .int .i64 n.b, .int .u64 n.v, .int .i64 n.t, .slice p1.AL n.L.length p1.cL, .slice p1.Ab (len n.body) p1.cb, .slice p1.Ae (len n.els) p1.ce, .bool n.he] #[.int .i64 n.op, .int .i64 n.a, .int .i64 n.b, .int .u64 n.v, .int .i64 n.t, .slice p2.AL n.L.length p2.cL, .slice p2.Ab (len n.body) p2.cb, .slice p2.Ae (len n.els) p2.ce, .bool n.he] w1 from two_box hb1); have x6 : w1.cell? ⟨wr.heap.size, 6, none⟩ = some (.slice p1.Ab (len n.body) p1.cb) := HKw1.out.2.1 6; have y6 : w1.cell? ⟨wr.heap.size + 1, 6, none⟩ = some (.slice p2.Ab (len n.body) p2.cb) := HKw1.out.2.2.1 6; have x7 : w1.cell? ⟨wr.heap.size, 7, none⟩ = some (.slice p1.Ae (len n.els) p1.ce) := HKw1.out.2.1 7; have y7 : w1.cell? ⟨wr.heap.size + 1, 7, none⟩ = some (.slice p2.Ae (len n.els) p2.ce) := HKw1.out.2.2.1 7; have hlw1 := HKw1.out.1; have HW1 := Lib.hid (HBel.out.trans (HKw1.out.bel.mono hsz)); clear hb1))
          | (go_at_call 52; ((with_reducible refine (HB.out _ HW1.out).mono ?_); rintro e w2 ⟨rfl, hb2⟩; have HKw2 := Lib.hid (HKw1.out.next hb2); clear x6 y6 x7 y7; have x7 : w2.cell? ⟨wr.heap.size, 7, none⟩ = some (.slice p1.Ae (len n.els) p1.ce) := HKw2.out.2.1 7; have y7 : w2.cell? ⟨wr.heap.size + 1, 7, none⟩ = some (.slice p2.Ae (len n.els) p2.ce) := HKw2.out.2.2.1 7; have hlw2 := HKw2.out.1; have HW2 := Lib.hid (HBel.out.trans (HKw2.out.bel.mono hsz)); clear hb2))
          | (go_at_call 52; ((with_reducible refine (HE.out _ HW2.out).mono ?_); rintro e w3 ⟨rfl, hb3⟩; have HW3 := Lib.hid (HW2.out.trans (hb3.mono HW2.out.size)); clear hb3)))
        go_roundw
        case rel => exact ⟨j + 1, by omega, by go_num, HW3.out⟩
        case measure => simp [intOf]; omega
      · have HB := Lib.hid hbel
        clear hbel
        go_wp2_with fail
        go_ret
        exact ⟨rfl, HB.out⟩
end Go.Proofs.YtmdgemdollfnhaaGreatDoor

/- The frame of the reference's Same, and the bodies of its loops, out of the translation. Plain definitions and lemmas. -/
namespace Go.Proofs.YtmdgemdollfnhaaGreatDoor
open Go.RowKit Trx

set_option maxRecDepth 100000 in
/-- the frame, slot by slot. -/
@[reducible] def fz (f : Nat → Value) : Act := ⟨#[f 0, f 1, f 2, f 3, f 4, f 5, f 6, f 7, f 8, f 9, f 10, f 11, f 12, f 13, f 14, f 15, f 16, f 17, f 18, f 19, f 20, f 21, f 22, f 23, f 24, f 25, f 26, f 27, f 28, f 29, f 30, f 31, f 32, f 33, f 34, f 35, f 36, f 37, f 38, f 39, f 40, f 41, f 42, f 43, f 44, f 45, f 46, f 47, f 48, f 49, f 50, f 51, f 52, f 53, f 54, f 55, f 56, f 57, f 58, f 59, f 60, f 61, f 62, f 63, f 64, f 65, f 66, f 67, f 68, f 69, f 70, f 71, f 72, f 73, f 74, f 75, f 76, f 77, f 78, f 79, f 80, f 81, f 82, f 83, f 84, f 85, f 86, f 87, f 88, f 89, f 90, f 91, f 92, f 93, f 94, f 95, f 96, f 97, f 98, f 99, f 100, f 101, f 102, f 103, f 104, f 105, f 106, f 107, f 108, f 109, f 110, f 111, f 112, f 113, f 114, f 115, f 116, f 117, f 118, f 119, f 120, f 121, f 122, f 123, f 124, f 125, f 126, f 127, f 128, f 129, f 130, f 131, f 132, f 133, f 134, f 135, f 136, f 137, f 138, f 139, f 140, f 141, f 142, f 143, f 144, f 145, f 146, f 147, f 148, f 149, f 150, f 151, f 152, f 153, f 154, f 155, f 156, f 157, f 158, f 159, f 160, f 161, f 162, f 163, f 164, f 165, f 166, f 167, f 168, f 169, f 170, f 171, f 172, f 173, f 174, f 175, f 176, f 177, f 178, f 179, f 180, f 181, f 182, f 183, f 184, f 185, f 186, f 187, f 188, f 189, f 190, f 191, f 192, f 193, f 194, f 195, f 196, f 197, f 198, f 199, f 200, f 201, f 202, f 203, f 204, f 205, f 206, f 207, f 208, f 209, f 210, f 211, f 212, f 213, f 214, f 215, f 216, f 217, f 218, f 219, f 220, f 221, f 222, f 223, f 224, f 225, f 226, f 227, f 228, f 229, f 230, f 231, f 232, f 233, f 234, f 235, f 236, f 237, f 238, f 239, f 240, f 241, f 242, f 243, f 244, f 245, f 246, f 247, f 248, f 249, f 250, f 251, f 252, f 253, f 254, f 255, f 256, f 257, f 258, f 259, f 260, f 261, f 262, f 263, f 264, f 265, f 266, f 267, f 268, f 269, f 270, f 271, f 272, f 273, f 274, f 275, f 276, f 277, f 278, f 279, f 280, f 281, f 282, f 283, f 284, f 285, f 286, f 287, f 288, f 289, f 290, f 291, f 292, f 293, f 294, f 295, f 296, f 297, f 298, f 299, f 300, f 301, f 302, f 303, f 304, f 305, f 306, f 307, f 308, f 309, f 310, f 311, f 312, f 313, f 314, f 315, f 316, f 317, f 318, f 319, f 320, f 321, f 322, f 323, f 324, f 325, f 326, f 327, f 328, f 329, f 330, f 331, f 332, f 333, f 334, f 335, f 336, f 337, f 338, f 339, f 340, f 341, f 342, f 343, f 344, f 345, f 346, f 347, f 348, f 349, f 350, f 351, f 352, f 353, f 354, f 355, f 356, f 357, f 358, f 359, f 360, f 361, f 362, f 363, f 364, f 365, f 366, f 367, f 368, f 369, f 370, f 371, f 372, f 373, f 374, f 375, f 376, f 377, f 378, f 379, f 380, f 381, f 382, f 383, f 384, f 385, f 386, f 387, f 388, f 389, f 390, f 391, f 392, f 393, f 394, f 395, f 396, f 397, f 398, f 399, f 400, f 401, f 402, f 403, f 404, f 405, f 406, f 407, f 408, f 409, f 410, f 411, f 412, f 413, f 414, f 415, f 416, f 417, f 418, f 419, f 420, f 421, f 422, f 423, f 424, f 425, f 426, f 427, f 428, f 429, f 430, f 431, f 432, f 433, f 434, f 435, f 436, f 437, f 438, f 439, f 440, f 441, f 442, f 443, f 444, f 445, f 446, f 447, f 448, f 449, f 450, f 451, f 452, f 453, f 454, f 455, f 456, f 457, f 458, f 459, f 460, f 461, f 462, f 463], []⟩
noncomputable def smBody (k : Nat) : Code := (((Tryz.f10.body.map loopsOf).getD [])[k]?).getD .skip
set_option maxRecDepth 100000 in
theorem fz_of (a : Act) (h : a.tmps.size = 464) (hd : a.defers = []) : a = fz (fun i => a.eval (.tmp i)) := by
  have h2 : a.tmps = ((List.range 464).map fun i => a.tmps.getD i undef).toArray := by
    apply Array.ext
    · simp [h]
    · intro i h1 h2
      simp [Array.getD, h1]
  obtain ⟨t, d⟩ := a
  simp only at hd h2
  subst hd
  have h3 : (⟨t, []⟩ : Act) = ⟨((List.range 464).map fun i => t.getD i undef).toArray, []⟩ := congrArg (fun x => (⟨x, []⟩ : Act)) h2
  exact h3
/-- the frame on the way. -/
structure Fz (b1 : Nat) (a : Act) : Prop where
  size : a.tmps.size = 464
  defers : a.defers = []
  e2 : a.eval (.tmp 2) = .pointer (some ⟨b1, 0, none⟩)
  e3 : a.eval (.tmp 3) = .pointer (some ⟨b1 + 1, 0, none⟩)
  e5 : a.eval (.tmp 5) = .bool true
/-- two modules that say the same, in their boxes. -/
structure SmC (m n : Mo) (w0 : World) (b1 : Nat) : Prop where
  lt : b1 + 1 < w0.heap.size
  box1 : ∀ i, i < 11 → w0.cell? ⟨b1, i, none⟩ = m.cells[i]?
  box2 : ∀ i, i < 11 → w0.cell? ⟨b1 + 1, i, none⟩ = n.cells[i]?
  ok1 : m.ok w0 w0.heap.size
  ok2 : n.ok w0 w0.heap.size
  key : keyM m = keyM n
theorem gen_z {P : Program} {c : Code} {Q : Exit → Act → World → Prop} {w : World} (k : Nat) {v2 v3 v5 vk : Value} (a : Act) (hs : a.tmps.size = 464) (hd : a.defers = []) (h2 : a.eval (.tmp 2) = v2) (h3 : a.eval (.tmp 3) = v3) (h5 : a.eval (.tmp 5) = v5) (hk : a.eval (.tmp k) = vk)
    (H : ∀ a : Act, a.tmps.size = 464 → a.defers = [] → a.eval (.tmp 2) = v2 → a.eval (.tmp 3) = v3 → a.eval (.tmp 5) = v5 → a.eval (.tmp k) = vk → Code.wp P c Q a w) : Code.wp P c Q a w := H a hs hd h2 h3 h5 hk
theorem op_guardT {P : Program} {ops : Array Oper} {Q : Exit → Act → World → Prop} {i j d : Nat} {o : Oper} {a : Act} {w : World} {K : Act → World → Prop} (ho : ops[i]? = some o) (hg : o.guard = some (j, true)) (hj : (ops[j]?).bind (·.dst) = some d) (hv : a.eval (.tmp d) = .bool true) (h : Oper.wp P o a w K Q) : wpOp P ops Q i K a w := by
  unfold wpOp
  rw [ho]
  have ht : a.tmps[d]? = some (.bool true) := by
    have := ev hv
    cases hx : a.tmps[d]? with
    | none => rw [hx] at this; simp [undef] at this
    | some u => rw [hx] at this; simp at this; rw [this]
  have hw : Region.wanted o (yielded ops a.tmps) = true := by simp [Region.wanted, hg, yielded, hj, ht]
  simp only [hw, if_true]
  exact .inl h
theorem Ints_eq (x y : IL) (w : World) (hx : x.ok w w.heap.size) (hy : y.ok w w.heap.size) (h : x.zs = y.zs) :
    Calls Tryz.prog 51 #[.slice x.A x.zs.length x.c, .slice y.A y.zs.length y.c] w fun e w' => e = .returned (.bool true) ∧ Below w.heap.size w w' := by
  obtain ⟨zs, A, c⟩ := y
  simp only at h
  subst h
  refine (Ints_same x.zs x.A A x.c c w hx.sl hy.sl (Nat.le_trans hx.le hx.c)).mono ?_
  rintro e w' ⟨rfl, n, rfl⟩
  exact ⟨rfl, below_drewN _ _⟩
theorem Code_eq (x y : FL) (w : World) (hx : x.ok w w.heap.size) (hy : y.ok w w.heap.size) (h : x.f = y.f) :
    Calls Tryz.prog 52 #[.slice x.A (len x.f) x.c, .slice y.A (len y.f) y.c] w fun e w' => e = .returned (.bool true) ∧ Below w.heap.size w w' := by
  obtain ⟨f, A, c⟩ := y
  simp only at h
  subst h
  exact SameIns_same _ x.f x.A A x.c c w (Nat.le_refl _) hx.rd hy.rd (Nat.le_trans hx.le hx.c)
theorem Ins_eq (n1 n2 : Nd) (A1 A2 : Option Addr) (w : World) (h1 : RdS w w.heap.size A1 (ofN [n1])) (h2 : RdS w w.heap.size A2 (ofN [n2])) (h : n1 = n2) :
    Calls Tryz.prog 52 #[.slice A1 1 1, .slice A2 1 1] w fun e w' => e = .returned (.bool true) ∧ Below w.heap.size w w' := by
  subst h
  exact SameIns_same _ (ofN [n1]) A1 A2 1 1 w (Nat.le_refl _) h1 h2 (by rw [len_ofN]; unfold maxLen; simp)
theorem key_at {α β : Type} (k : α → β) {l m : List α} {j : Nat} {x y : α} (h : l.map k = m.map k) (hx : l[j]? = some x) (hy : m[j]? = some y) : k x = k y := by
  have h1 : (l.map k)[j]? = some (k x) := by rw [List.getElem?_map, hx]; rfl
  have h2 : (m.map k)[j]? = some (k y) := by rw [List.getElem?_map, hy]; rfl
  rw [h, h2] at h1
  exact (Option.some.inj h1).symm
theorem key_len {α β : Type} (k : α → β) {l m : List α} (h : l.map k = m.map k) : m.length = l.length := by have := congrArg List.length h; simp at this; exact this.symm
end Go.Proofs.YtmdgemdollfnhaaGreatDoor
