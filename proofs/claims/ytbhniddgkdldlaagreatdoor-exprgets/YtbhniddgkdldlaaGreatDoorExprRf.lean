/- The reference's reader of layer 6: what ins and List leave; contract of ins, of lists of labels. -/
import Derived.Test.YtbhniddgkdldlaaGreatDoorExprRe
import Derived.Test.YtbhniddgkdldlaaGreatDoorExprGh
import Derived.Test.YtbhniddgkdldlaaGreatDoorExprGz
set_option linter.unusedVariables false
set_option linter.unusedSimpArgs false
namespace Go.Proofs.YtbhniddgkdldlaaGreatDoor.Trx
/-- instructions behind the place. -/
def onL (fuel depth : Nat) (bs : List UInt8) : Sx → Rs (Fo × Nat × Nat)
  | .error er => .error er
  | .ok (p, n) => rdL fuel depth n (bs.drop p) p
/-- of the labels L were read, k are left. -/
def tabI (bs : List UInt8) (r : Rs (List Int)) (n0 k : Nat) (L : List Int) : Sx → Prop
  | .error er => r = .error er
  | .ok (q, n) => n = n0 ∧ r = preT L (rdTab k (bs.drop q) q)
theorem tabI_next {bs : List UInt8} {r : Rs (List Int)} {n0 k q n : Nat} {L : List Int} (h : tabI bs r n0 (k + 1) L (.ok (q, n))) (hq : q ≤ bs.length) : tabI bs r n0 k (L ++ [(onI bs (.ok (q, n))).1]) (onI bs (.ok (q, n))).2 := by
  obtain ⟨rfl, h⟩ := h
  rw [tab_succ] at h
  unfold onI onS
  cases hr : rdInt (bs.drop q) q with
  | error er => rw [hr] at h; simp only [hr]; exact h
  | ok x =>
    obtain ⟨x, l, q'⟩ := x
    obtain ⟨rfl, -, -⟩ := Adv.dropped (int_got hr).2 hq
    rw [hr] at h
    simp only at h
    rw [preT_preT] at h
    simp only [hr]
    exact ⟨rfl, h⟩
end Go.Proofs.YtbhniddgkdldlaaGreatDoor.Trx
namespace Go.Proofs.YtbhniddgkdldlaaGreatDoor
open Go.RowKit Trx
/-- what ins leaves. -/
def InsQ (R : Nat) (w : World) (A : Option Addr) (c : Nat) (bs : List UInt8) : Rs (Nd × Nat) → Ending → World → Prop
  | .error er, e, w' => ∃ C : In, e = .returned (.agg (insC C.n C.p)) ∧ RfS R w' A c bs (.error er) ∧ Kx (Only R) w w'
  | .ok ((nd, n'), _, p'), e, w' => ∃ pl, e = .returned (.agg (insC nd pl)) ∧ NewN (Win w.heap.size w') w' w'.heap.size ⟨nd, pl⟩ ∧ RfS R w' A c bs (.ok (p', n')) ∧ Kx (Only R) w w'
/-- what List leaves. -/
def ListQ (R : Nat) (w : World) (A : Option Addr) (c : Nat) (bs : List UInt8) : Rs (Fo × Nat × Nat) → Ending → World → Prop
  | .error er, e, w' => ∃ (A' : Option Addr) (c' : Nat) (f : Fo) (last : Int), e = .returned (.tuple #[.slice A' (len f) c', .int .i64 last]) ∧ (last == 5) = false ∧ RfS R w' A c bs (.error er) ∧ Kx (Only R) w w'
  | .ok ((f, last, n'), _, p'), e, w' => ∃ A' c', e = .returned (.tuple #[.slice A' (len f) c', .int .i64 last]) ∧ len f ≤ c' ∧ c' ≤ maxLen ∧ NewF (Win w.heap.size w') w' w'.heap.size A' f ∧ RfS R w' A c bs (.ok (p', n')) ∧ Kx (Only R) w w'
/-- what List does, of so many bytes. -/
def ListD (fuel : Nat) : Prop := ∀ (R : Nat) (w : World) (A : Option Addr) (c : Nat) (bs : List UInt8) (s : Sx) (depth : Nat), RfS R w A c bs s → (∀ p n, s = .ok (p, n) → bs.length - p < fuel ∧ n ≤ 512) → depth ≤ 32 →
  Calls Tryz.prog 25 #[.pointer (some ⟨R, 0, none⟩), .int .i64 depth] w (ListQ R w A c bs (onL fuel depth bs s))
section
variable {R : Nat} {w : World} {A : Option Addr} {c : Nat} {bs : List UInt8} {p n : Nat} {s : Sx}
theorem RfS.bad {er : Nat × Nat} (h : RfS R w A c bs (.error er)) : ∃ k : Int, w.cell? ⟨R, 3, none⟩ = some (.int .i64 k) ∧ (k == 0) = false := by
  obtain ⟨h0, p, n, h⟩ := h
  exact ⟨_, h.c3, by simp; omega⟩
theorem RfS.good (h : RfS R w A c bs (.ok (p, n))) : w.cell? ⟨R, 3, none⟩ = some (.int .i64 0) := (show Rf R w A c bs p n 0 0 from h).c3
/-- labels, as an instruction. -/
def labR (b : Int) (n : Nat) : Rs (List Int) → Rs (Nd × Nat)
  | .error e => .error e
  | .ok (L, l, p) => .ok ((⟨b, 0, 0, 0, 0, L, .nil, .nil, false⟩, n), l, p)
/-- a struct in the making whose labels are v. -/
@[reducible] def insL (b : Int) (v : Value) : Array Value := #[.int .i64 b, .int .i64 0, .int .i64 0, .int .u64 0, .int .i64 0, v, .slice none 0 0, .slice none 0 0, .bool false]
/-- what holds at the head of each round: j labels were read. -/
def LbR (R : Nat) (w : World) (A : Option Addr) (c : Nat) (bs : List UInt8) (r : Rs (List Int)) (n0 M : Nat) (b : Int) (i : Value) (wr : World) : Prop :=
  ∃ (j : Nat) (Lj : List Int) (s : Sx) (v : Value), j ≤ M ∧ i = .int .i64 j ∧ Lj.length = j ∧ (∀ z ∈ Lj, inI z) ∧ tabI bs r n0 (M - j) Lj s ∧ RfS R wr A c bs s ∧ Kx (Only R) w wr ∧
    (∀ i, wr.cell? ⟨w.heap.size, i, none⟩ = (insZ 0)[i]?) ∧ (∀ i, wr.frozen? ⟨w.heap.size, i, none⟩ = false) ∧ (∀ i, wr.cell? ⟨w.heap.size + 1, i, none⟩ = (insL b v)[i]?) ∧ (∀ i, wr.frozen? ⟨w.heap.size + 1, i, none⟩ = false) ∧ OwnK (w.heap.size + 2) wr wr 3 1 v (ones (n64s Lj))
theorem blk_lt' {w : World} {b o : Nat} {C : Array Value} (h : w.cell? ⟨b, o, none⟩ = C[o]?) (ho : o < C.size) : b < w.heap.size := World.block_lt_of_cell? _ _ (h.trans (Array.getElem?_eq_getElem ho))
/-- a store below its blocks leaves a row of the call's own. -/
theorem OwnK.setLow {B : Nat} {w : World} {e : TypeId} {k : Nat} {v : Value} {rs : List (List Value)} {X : Nat} (h : OwnK B w w e k v rs) (hX : X < B) (i : Nat) (u : Value) : OwnK B (w.setCell ⟨X, i, none⟩ u) (w.setCell ⟨X, i, none⟩ u) e k v rs :=
  OwnK.kx (R := X) h (Kx.setCell (M := Only X) (p := ⟨X, i, none⟩) Kx.refl_ (.inl rfl) u) hX
theorem NewS.mv {lo lo' : Nat} {S : Nat → Prop} {w w' : World} {A : Option Addr} {vs : List Value} (h : NewS S w w.heap.size A vs) (hS : ∀ g, S g → lo ≤ g ∧ g < w.heap.size) (hk : Kx (fun b => b < lo) w w') (hl : lo' ≤ lo) : NewS (Win lo' w') w' w'.heap.size A vs := fun wx ha =>
  (h wx (fun b o hb => (ha b o ⟨Nat.le_trans hl (hS b hb).1, Nat.lt_of_lt_of_le (hS b hb).2 hk.size⟩).trans (World.cell?_of_block (hk.block b (hS b hb).2 (by have := (hS b hb).1; omega))))).more hk.size

set_option maxHeartbeats 8000000 in
set_option maxRecDepth 100000 in
theorem insR_14e (h : Rf R w A c bs p n 0 0) (b : Int) (hbI : inI b) (depth : Nat) (k : Int) (hk : knd b = k) (t2 : (k == 2) = false) (t7 : (k == 7) = false) (t8 : (k == 8) = false) (t9 : (k == 9) = false) (u65 : (b == 65) = false) (u66 : (b == 66) = false) (u14 : (b == 14) = true) (er : Nat × Nat) (hs1 : onI bs (.ok (p, n)) = (0, .error er)) :
    Calls Tryz.prog 43 #[.pointer (some ⟨R, 0, none⟩), .int .i64 b, .int .i64 depth] w (InsQ R w A c bs (.error er)) := by
  have hRX := h.lt
  have hRZ : R < w.heap.size + 1 := by omega
  have hzw : w.heap.size ≤ w.heap.size + 1 := by omega
  have HKd := Lib.hid (fun w => Kind_any b w)
  rw [hk] at HKd
  have HR0 := Lib.hid h
  have HI1 := Lib.hid (fun wx (h : Rf R wx A c bs p n 0 0) => Int_any (s := .ok (p, n)) h)
  rw [hs1] at HI1
  dsimp only at HI1
  clear h hk hs1
  unfold InsQ insC
  go_enter Tryz.func43, Tryz.ntmps43
  go_wp2_with (first
    | (go_at_call 34; ((with_reducible refine (HKd.out _).mono ?_); rintro e w2 ⟨rfl, hb2⟩; have HXw2 : Hid (∀ i, w2.cell? ⟨w.heap.size, i, none⟩ = (insZ 0)[i]?) := Lib.hid (fun i => (hb2.cell (p := ⟨w.heap.size, i, none⟩) (by simp; omega)).trans ((World.cell?_alloc_lt _ _ ⟨w.heap.size, i, none⟩ (by simp)).trans (World.cell?_alloc_at _ _ _ _ rfl))); have HZw2 : Hid (∀ i, w2.cell? ⟨(w.heap.size + 1), i, none⟩ = (insZ b)[i]?) := Lib.hid (fun i => (hb2.cell (p := ⟨(w.heap.size + 1), i, none⟩) (by simp)).trans (World.cell?_alloc_at _ _ _ _ (by simp))); have HXfw2 : Hid (∀ i, w2.frozen? ⟨w.heap.size, i, none⟩ = false) := Lib.hid (fun i => (hb2.frozen (p := ⟨w.heap.size, i, none⟩) (by simp; omega)).trans ((World.frozen?_alloc_old _ _ ⟨w.heap.size, i, none⟩ (by simp)).trans (World.frozen?_alloc_at _ _ _ _ rfl))); have HZfw2 : Hid (∀ i, w2.frozen? ⟨(w.heap.size + 1), i, none⟩ = false) := Lib.hid (fun i => (hb2.frozen (p := ⟨(w.heap.size + 1), i, none⟩) (by simp)).trans (World.frozen?_alloc_at _ _ _ _ (by simp))); have HlXw2 : Hid (w.heap.size < w2.heap.size) := Lib.hid (Nat.lt_of_lt_of_le (by simp; omega) hb2.size); have HlZw2 : Hid ((w.heap.size + 1) < w2.heap.size) := Lib.hid (Nat.lt_of_lt_of_le (by simp) hb2.size); have HRw2 : Hid (Rf R w2 A c bs p n 0 0) := Lib.hid ((HR0.out.later (((Below.refl _ _).alloc (Nat.le_refl _) _).alloc (by simp) _)).later hb2); have HKw2 : Hid (Kx (Only R) w w2) := Lib.hid (((Kx.refl_.alloc _).alloc _).trans (.of_below hb2)); clear hb2; have pc1 : w2.cell? ⟨R, 1, none⟩ = some (.int .i64 p) := HRw2.out.c1; have hRl : R < w2.heap.size := HRw2.out.lt; have x0 : w2.cell? ⟨w.heap.size, 0, none⟩ = some (.int .i64 0) := HXw2.out 0; have x1 : w2.cell? ⟨w.heap.size, 1, none⟩ = some (.int .i64 0) := HXw2.out 1; have x2 : w2.cell? ⟨w.heap.size, 2, none⟩ = some (.int .i64 0) := HXw2.out 2; have x3 : w2.cell? ⟨w.heap.size, 3, none⟩ = some (.int .u64 0) := HXw2.out 3; have x4 : w2.cell? ⟨w.heap.size, 4, none⟩ = some (.int .i64 0) := HXw2.out 4; have x5 : w2.cell? ⟨w.heap.size, 5, none⟩ = some (.slice none 0 0) := HXw2.out 5; have x6 : w2.cell? ⟨w.heap.size, 6, none⟩ = some (.slice none 0 0) := HXw2.out 6; have x7 : w2.cell? ⟨w.heap.size, 7, none⟩ = some (.slice none 0 0) := HXw2.out 7; have x8 : w2.cell? ⟨w.heap.size, 8, none⟩ = some (.bool false) := HXw2.out 8; have z0 : w2.cell? ⟨(w.heap.size + 1), 0, none⟩ = some (.int .i64 b) := HZw2.out 0; have z1 : w2.cell? ⟨(w.heap.size + 1), 1, none⟩ = some (.int .i64 0) := HZw2.out 1; have z2 : w2.cell? ⟨(w.heap.size + 1), 2, none⟩ = some (.int .i64 0) := HZw2.out 2; have z3 : w2.cell? ⟨(w.heap.size + 1), 3, none⟩ = some (.int .u64 0) := HZw2.out 3; have z4 : w2.cell? ⟨(w.heap.size + 1), 4, none⟩ = some (.int .i64 0) := HZw2.out 4; have z5 : w2.cell? ⟨(w.heap.size + 1), 5, none⟩ = some (.slice none 0 0) := HZw2.out 5; have z6 : w2.cell? ⟨(w.heap.size + 1), 6, none⟩ = some (.slice none 0 0) := HZw2.out 6; have z7 : w2.cell? ⟨(w.heap.size + 1), 7, none⟩ = some (.slice none 0 0) := HZw2.out 7; have z8 : w2.cell? ⟨(w.heap.size + 1), 8, none⟩ = some (.bool false) := HZw2.out 8; have xf := HXfw2.out; have zf := HZfw2.out; have hXl : w.heap.size < w2.heap.size := HlXw2.out; have hZl : (w.heap.size + 1) < w2.heap.size := HlZw2.out;))
    | (go_at_call 70; (with_reducible refine (HI1.out _ HRw2.out).mono ?_); rintro e w3 ⟨rfl, hr, hk⟩; clear x0 x1 x2 x3 x4 x5 x6 x7 x8 z0 z1 z2 z3 z4 z5 z6 z7 z8 xf zf hXl hZl; clear pc1; have hlx_ : w.heap.size < (w2).heap.size := HlXw2.out; have hlz_ : (w.heap.size + 1) < (w2).heap.size := HlZw2.out; have HXw3 := Lib.hid (fun i => (World.cell?_of_block (a := ⟨w.heap.size, i, none⟩) (hk.block _ hlx_ (by simp; omega))).trans (HXw2.out i)); have HZw3 := Lib.hid (fun i => (World.cell?_of_block (a := ⟨(w.heap.size + 1), i, none⟩) (hk.block _ hlz_ (by simp; omega))).trans (HZw2.out i)); have HXfw3 : Hid (∀ i, w3.frozen? ⟨w.heap.size, i, none⟩ = false) := Lib.hid (fun i => (hk.frozen hlx_ (by simp; omega)).trans (HXfw2.out i)); have HZfw3 : Hid (∀ i, w3.frozen? ⟨(w.heap.size + 1), i, none⟩ = false) := Lib.hid (fun i => (hk.frozen hlz_ (by simp; omega)).trans (HZfw2.out i)); have HlXw3 := Lib.hid (Nat.lt_of_lt_of_le hlx_ hk.size); have HlZw3 := Lib.hid (Nat.lt_of_lt_of_le hlz_ hk.size); have HKw3 := Lib.hid ((HKw2.out).trans hk); clear hlx_ hlz_; have HRw3 := Lib.hid hr; have x0 : w3.cell? ⟨w.heap.size, 0, none⟩ = some (.int .i64 0) := HXw3.out 0; have x1 : w3.cell? ⟨w.heap.size, 1, none⟩ = some (.int .i64 0) := HXw3.out 1; have x2 : w3.cell? ⟨w.heap.size, 2, none⟩ = some (.int .i64 0) := HXw3.out 2; have x3 : w3.cell? ⟨w.heap.size, 3, none⟩ = some (.int .u64 0) := HXw3.out 3; have x4 : w3.cell? ⟨w.heap.size, 4, none⟩ = some (.int .i64 0) := HXw3.out 4; have x5 : w3.cell? ⟨w.heap.size, 5, none⟩ = some (.slice none 0 0) := HXw3.out 5; have x6 : w3.cell? ⟨w.heap.size, 6, none⟩ = some (.slice none 0 0) := HXw3.out 6; have x7 : w3.cell? ⟨w.heap.size, 7, none⟩ = some (.slice none 0 0) := HXw3.out 7; have x8 : w3.cell? ⟨w.heap.size, 8, none⟩ = some (.bool false) := HXw3.out 8; have z0 : w3.cell? ⟨(w.heap.size + 1), 0, none⟩ = some (.int .i64 b) := HZw3.out 0; have z1 : w3.cell? ⟨(w.heap.size + 1), 1, none⟩ = some (.int .i64 0) := HZw3.out 1; have z2 : w3.cell? ⟨(w.heap.size + 1), 2, none⟩ = some (.int .i64 0) := HZw3.out 2; have z3 : w3.cell? ⟨(w.heap.size + 1), 3, none⟩ = some (.int .u64 0) := HZw3.out 3; have z4 : w3.cell? ⟨(w.heap.size + 1), 4, none⟩ = some (.int .i64 0) := HZw3.out 4; have z5 : w3.cell? ⟨(w.heap.size + 1), 5, none⟩ = some (.slice none 0 0) := HZw3.out 5; have z6 : w3.cell? ⟨(w.heap.size + 1), 6, none⟩ = some (.slice none 0 0) := HZw3.out 6; have z7 : w3.cell? ⟨(w.heap.size + 1), 7, none⟩ = some (.slice none 0 0) := HZw3.out 7; have z8 : w3.cell? ⟨(w.heap.size + 1), 8, none⟩ = some (.bool false) := HZw3.out 8; have xf := HXfw3.out; have zf := HZfw3.out; have hXl : w.heap.size < w3.heap.size := HlXw3.out; have hZl : (w.heap.size + 1) < w3.heap.size := HlZw3.out; obtain ⟨kb, bc, tb0⟩ := hr.bad; have hRl := hr.lt; clear hr hk))
  refine wp_loop_rounds 1 ?_
  rw [rounds_succ]
  go_wp2_with fail
  refine bodyPost_ret (v := .agg #[.int .i64 b, .int .i64 0, .int .i64 0, .int .u64 0, .int .i64 0, .slice none 0 0, .slice none 0 0, .slice none 0 0, .bool false]) (by simp [results, Tryz.results43, go_sem, x0, x1, x2, x3, x4, x5, x6, x7, x8, z0, z1, z2, z3, z4, z5, z6, z7, z8, hXl]) rfl ?_
  exact ⟨⟨⟨b, 0, 0, 0, 0, [], .nil, .nil, false⟩, ⟨none, 0, none, 0, none, 0⟩⟩, rfl, (((((((((HRw3.out.setOther hRX 0 _).setOther hRX 1 _).setOther hRX 2 _).setOther hRX 3 _).setOther hRX 4 _).setOther hRX 5 _).setOther hRX 6 _).setOther hRX 7 _).setOther hRX 8 _), (((((((((HKw3.out.setCell (p := ⟨w.heap.size, 0, none⟩) (.inr (Nat.le_refl _)) _).setCell (p := ⟨w.heap.size, 1, none⟩) (.inr (Nat.le_refl _)) _).setCell (p := ⟨w.heap.size, 2, none⟩) (.inr (Nat.le_refl _)) _).setCell (p := ⟨w.heap.size, 3, none⟩) (.inr (Nat.le_refl _)) _).setCell (p := ⟨w.heap.size, 4, none⟩) (.inr (Nat.le_refl _)) _).setCell (p := ⟨w.heap.size, 5, none⟩) (.inr (Nat.le_refl _)) _).setCell (p := ⟨w.heap.size, 6, none⟩) (.inr (Nat.le_refl _)) _).setCell (p := ⟨w.heap.size, 7, none⟩) (.inr (Nat.le_refl _)) _).setCell (p := ⟨w.heap.size, 8, none⟩) (.inr (Nat.le_refl _)) _)⟩

set_option maxHeartbeats 8000000 in
set_option maxRecDepth 100000 in
theorem insR_14b (h : Rf R w A c bs p n 0 0) (b : Int) (hbI : inI b) (depth : Nat) (k : Int) (hk : knd b = k) (t2 : (k == 2) = false) (t7 : (k == 7) = false) (t8 : (k == 8) = false) (t9 : (k == 9) = false) (u65 : (b == 65) = false) (u66 : (b == 66) = false) (u14 : (b == 14) = true) (m : Int) (s1 : Nat × Nat) (hs1 : onI bs (.ok (p, n)) = (m, .ok s1)) (hm : 63 < m) (hm2 : m ≤ 4294967295) :
    Calls Tryz.prog 43 #[.pointer (some ⟨R, 0, none⟩), .int .i64 b, .int .i64 depth] w (InsQ R w A c bs (.error (7, p))) := by
  have hRX := h.lt
  have hRZ : R < w.heap.size + 1 := by omega
  have hzw : w.heap.size ≤ w.heap.size + 1 := by omega
  have HKd := Lib.hid (fun w => Kind_any b w)
  rw [hk] at HKd
  have HR0 := Lib.hid h
  have HI1 := Lib.hid (fun wx (h : Rf R wx A c bs p n 0 0) => Int_any (s := .ok (p, n)) h)
  rw [hs1] at HI1
  dsimp only at HI1
  clear h hk hs1
  have HAm : Hid (∀ wx, RfS R wx A c bs (.ok s1) → Calls Tryz.prog 26 #[.pointer (some ⟨R, 0, none⟩), .int .i64 7, .int .i64 p] wx fun e w' => e = .returned (.tuple #[]) ∧ RfS R w' A c bs (.error (7, p)) ∧ Kx (Only R) wx w') := Lib.hid (fun wx h => AmissS 7 7 rfl (by decide) h p)
  have tl : decide (0 ≤ m) = true := by simp; omega
  have tm : decide (63 < m) = true := by simp; omega
  have tm2 : decide (64 ≤ m) = true := by simp; omega
  have m0 : 0 ≤ m := by omega
  unfold InsQ insC
  go_enter Tryz.func43, Tryz.ntmps43
  go_wp2_with (first
    | (go_at_call 34; ((with_reducible refine (HKd.out _).mono ?_); rintro e w2 ⟨rfl, hb2⟩; have HXw2 : Hid (∀ i, w2.cell? ⟨w.heap.size, i, none⟩ = (insZ 0)[i]?) := Lib.hid (fun i => (hb2.cell (p := ⟨w.heap.size, i, none⟩) (by simp; omega)).trans ((World.cell?_alloc_lt _ _ ⟨w.heap.size, i, none⟩ (by simp)).trans (World.cell?_alloc_at _ _ _ _ rfl))); have HZw2 : Hid (∀ i, w2.cell? ⟨(w.heap.size + 1), i, none⟩ = (insZ b)[i]?) := Lib.hid (fun i => (hb2.cell (p := ⟨(w.heap.size + 1), i, none⟩) (by simp)).trans (World.cell?_alloc_at _ _ _ _ (by simp))); have HXfw2 : Hid (∀ i, w2.frozen? ⟨w.heap.size, i, none⟩ = false) := Lib.hid (fun i => (hb2.frozen (p := ⟨w.heap.size, i, none⟩) (by simp; omega)).trans ((World.frozen?_alloc_old _ _ ⟨w.heap.size, i, none⟩ (by simp)).trans (World.frozen?_alloc_at _ _ _ _ rfl))); have HZfw2 : Hid (∀ i, w2.frozen? ⟨(w.heap.size + 1), i, none⟩ = false) := Lib.hid (fun i => (hb2.frozen (p := ⟨(w.heap.size + 1), i, none⟩) (by simp)).trans (World.frozen?_alloc_at _ _ _ _ (by simp))); have HlXw2 : Hid (w.heap.size < w2.heap.size) := Lib.hid (Nat.lt_of_lt_of_le (by simp; omega) hb2.size); have HlZw2 : Hid ((w.heap.size + 1) < w2.heap.size) := Lib.hid (Nat.lt_of_lt_of_le (by simp) hb2.size); have HRw2 : Hid (Rf R w2 A c bs p n 0 0) := Lib.hid ((HR0.out.later (((Below.refl _ _).alloc (Nat.le_refl _) _).alloc (by simp) _)).later hb2); have HKw2 : Hid (Kx (Only R) w w2) := Lib.hid (((Kx.refl_.alloc _).alloc _).trans (.of_below hb2)); clear hb2; have pc1 : w2.cell? ⟨R, 1, none⟩ = some (.int .i64 p) := HRw2.out.c1; have hRl : R < w2.heap.size := HRw2.out.lt; have x0 : w2.cell? ⟨w.heap.size, 0, none⟩ = some (.int .i64 0) := HXw2.out 0; have x1 : w2.cell? ⟨w.heap.size, 1, none⟩ = some (.int .i64 0) := HXw2.out 1; have x2 : w2.cell? ⟨w.heap.size, 2, none⟩ = some (.int .i64 0) := HXw2.out 2; have x3 : w2.cell? ⟨w.heap.size, 3, none⟩ = some (.int .u64 0) := HXw2.out 3; have x4 : w2.cell? ⟨w.heap.size, 4, none⟩ = some (.int .i64 0) := HXw2.out 4; have x5 : w2.cell? ⟨w.heap.size, 5, none⟩ = some (.slice none 0 0) := HXw2.out 5; have x6 : w2.cell? ⟨w.heap.size, 6, none⟩ = some (.slice none 0 0) := HXw2.out 6; have x7 : w2.cell? ⟨w.heap.size, 7, none⟩ = some (.slice none 0 0) := HXw2.out 7; have x8 : w2.cell? ⟨w.heap.size, 8, none⟩ = some (.bool false) := HXw2.out 8; have z0 : w2.cell? ⟨(w.heap.size + 1), 0, none⟩ = some (.int .i64 b) := HZw2.out 0; have z1 : w2.cell? ⟨(w.heap.size + 1), 1, none⟩ = some (.int .i64 0) := HZw2.out 1; have z2 : w2.cell? ⟨(w.heap.size + 1), 2, none⟩ = some (.int .i64 0) := HZw2.out 2; have z3 : w2.cell? ⟨(w.heap.size + 1), 3, none⟩ = some (.int .u64 0) := HZw2.out 3; have z4 : w2.cell? ⟨(w.heap.size + 1), 4, none⟩ = some (.int .i64 0) := HZw2.out 4; have z5 : w2.cell? ⟨(w.heap.size + 1), 5, none⟩ = some (.slice none 0 0) := HZw2.out 5; have z6 : w2.cell? ⟨(w.heap.size + 1), 6, none⟩ = some (.slice none 0 0) := HZw2.out 6; have z7 : w2.cell? ⟨(w.heap.size + 1), 7, none⟩ = some (.slice none 0 0) := HZw2.out 7; have z8 : w2.cell? ⟨(w.heap.size + 1), 8, none⟩ = some (.bool false) := HZw2.out 8; have xf := HXfw2.out; have zf := HZfw2.out; have hXl : w.heap.size < w2.heap.size := HlXw2.out; have hZl : (w.heap.size + 1) < w2.heap.size := HlZw2.out;))
    | (go_at_call 70; (with_reducible refine (HI1.out _ HRw2.out).mono ?_); rintro e w3 ⟨rfl, hr, hk⟩; clear x0 x1 x2 x3 x4 x5 x6 x7 x8 z0 z1 z2 z3 z4 z5 z6 z7 z8 xf zf hXl hZl; clear pc1; have hlx_ : w.heap.size < (w2).heap.size := HlXw2.out; have hlz_ : (w.heap.size + 1) < (w2).heap.size := HlZw2.out; have HXw3 := Lib.hid (fun i => (World.cell?_of_block (a := ⟨w.heap.size, i, none⟩) (hk.block _ hlx_ (by simp; omega))).trans (HXw2.out i)); have HZw3 := Lib.hid (fun i => (World.cell?_of_block (a := ⟨(w.heap.size + 1), i, none⟩) (hk.block _ hlz_ (by simp; omega))).trans (HZw2.out i)); have HXfw3 : Hid (∀ i, w3.frozen? ⟨w.heap.size, i, none⟩ = false) := Lib.hid (fun i => (hk.frozen hlx_ (by simp; omega)).trans (HXfw2.out i)); have HZfw3 : Hid (∀ i, w3.frozen? ⟨(w.heap.size + 1), i, none⟩ = false) := Lib.hid (fun i => (hk.frozen hlz_ (by simp; omega)).trans (HZfw2.out i)); have HlXw3 := Lib.hid (Nat.lt_of_lt_of_le hlx_ hk.size); have HlZw3 := Lib.hid (Nat.lt_of_lt_of_le hlz_ hk.size); have HKw3 := Lib.hid ((HKw2.out).trans hk); clear hlx_ hlz_; have HRw3 := Lib.hid hr; have x0 : w3.cell? ⟨w.heap.size, 0, none⟩ = some (.int .i64 0) := HXw3.out 0; have x1 : w3.cell? ⟨w.heap.size, 1, none⟩ = some (.int .i64 0) := HXw3.out 1; have x2 : w3.cell? ⟨w.heap.size, 2, none⟩ = some (.int .i64 0) := HXw3.out 2; have x3 : w3.cell? ⟨w.heap.size, 3, none⟩ = some (.int .u64 0) := HXw3.out 3; have x4 : w3.cell? ⟨w.heap.size, 4, none⟩ = some (.int .i64 0) := HXw3.out 4; have x5 : w3.cell? ⟨w.heap.size, 5, none⟩ = some (.slice none 0 0) := HXw3.out 5; have x6 : w3.cell? ⟨w.heap.size, 6, none⟩ = some (.slice none 0 0) := HXw3.out 6; have x7 : w3.cell? ⟨w.heap.size, 7, none⟩ = some (.slice none 0 0) := HXw3.out 7; have x8 : w3.cell? ⟨w.heap.size, 8, none⟩ = some (.bool false) := HXw3.out 8; have z0 : w3.cell? ⟨(w.heap.size + 1), 0, none⟩ = some (.int .i64 b) := HZw3.out 0; have z1 : w3.cell? ⟨(w.heap.size + 1), 1, none⟩ = some (.int .i64 0) := HZw3.out 1; have z2 : w3.cell? ⟨(w.heap.size + 1), 2, none⟩ = some (.int .i64 0) := HZw3.out 2; have z3 : w3.cell? ⟨(w.heap.size + 1), 3, none⟩ = some (.int .u64 0) := HZw3.out 3; have z4 : w3.cell? ⟨(w.heap.size + 1), 4, none⟩ = some (.int .i64 0) := HZw3.out 4; have z5 : w3.cell? ⟨(w.heap.size + 1), 5, none⟩ = some (.slice none 0 0) := HZw3.out 5; have z6 : w3.cell? ⟨(w.heap.size + 1), 6, none⟩ = some (.slice none 0 0) := HZw3.out 6; have z7 : w3.cell? ⟨(w.heap.size + 1), 7, none⟩ = some (.slice none 0 0) := HZw3.out 7; have z8 : w3.cell? ⟨(w.heap.size + 1), 8, none⟩ = some (.bool false) := HZw3.out 8; have xf := HXfw3.out; have zf := HZfw3.out; have hXl : w.heap.size < w3.heap.size := HlXw3.out; have hZl : (w.heap.size + 1) < w3.heap.size := HlZw3.out; clear hr hk)
    | (go_at_call 26; (with_reducible refine (HAm.out _ HRw3.out).mono ?_); rintro e w4 ⟨rfl, hr, hk⟩; clear x0 x1 x2 x3 x4 x5 x6 x7 x8 z0 z1 z2 z3 z4 z5 z6 z7 z8 xf zf hXl hZl; have hlx_ : w.heap.size < (w3).heap.size := HlXw3.out; have hlz_ : (w.heap.size + 1) < (w3).heap.size := HlZw3.out; have HXw4 := Lib.hid (fun i => (World.cell?_of_block (a := ⟨w.heap.size, i, none⟩) (hk.block _ hlx_ (by simp; omega))).trans (HXw3.out i)); have HZw4 := Lib.hid (fun i => (World.cell?_of_block (a := ⟨(w.heap.size + 1), i, none⟩) (hk.block _ hlz_ (by simp; omega))).trans (HZw3.out i)); have HXfw4 : Hid (∀ i, w4.frozen? ⟨w.heap.size, i, none⟩ = false) := Lib.hid (fun i => (hk.frozen hlx_ (by simp; omega)).trans (HXfw3.out i)); have HZfw4 : Hid (∀ i, w4.frozen? ⟨(w.heap.size + 1), i, none⟩ = false) := Lib.hid (fun i => (hk.frozen hlz_ (by simp; omega)).trans (HZfw3.out i)); have HlXw4 := Lib.hid (Nat.lt_of_lt_of_le hlx_ hk.size); have HlZw4 := Lib.hid (Nat.lt_of_lt_of_le hlz_ hk.size); have HKw4 := Lib.hid ((HKw3.out).trans hk); clear hlx_ hlz_; have HRw4 := Lib.hid hr; have x0 : w4.cell? ⟨w.heap.size, 0, none⟩ = some (.int .i64 0) := HXw4.out 0; have x1 : w4.cell? ⟨w.heap.size, 1, none⟩ = some (.int .i64 0) := HXw4.out 1; have x2 : w4.cell? ⟨w.heap.size, 2, none⟩ = some (.int .i64 0) := HXw4.out 2; have x3 : w4.cell? ⟨w.heap.size, 3, none⟩ = some (.int .u64 0) := HXw4.out 3; have x4 : w4.cell? ⟨w.heap.size, 4, none⟩ = some (.int .i64 0) := HXw4.out 4; have x5 : w4.cell? ⟨w.heap.size, 5, none⟩ = some (.slice none 0 0) := HXw4.out 5; have x6 : w4.cell? ⟨w.heap.size, 6, none⟩ = some (.slice none 0 0) := HXw4.out 6; have x7 : w4.cell? ⟨w.heap.size, 7, none⟩ = some (.slice none 0 0) := HXw4.out 7; have x8 : w4.cell? ⟨w.heap.size, 8, none⟩ = some (.bool false) := HXw4.out 8; have z0 : w4.cell? ⟨(w.heap.size + 1), 0, none⟩ = some (.int .i64 b) := HZw4.out 0; have z1 : w4.cell? ⟨(w.heap.size + 1), 1, none⟩ = some (.int .i64 0) := HZw4.out 1; have z2 : w4.cell? ⟨(w.heap.size + 1), 2, none⟩ = some (.int .i64 0) := HZw4.out 2; have z3 : w4.cell? ⟨(w.heap.size + 1), 3, none⟩ = some (.int .u64 0) := HZw4.out 3; have z4 : w4.cell? ⟨(w.heap.size + 1), 4, none⟩ = some (.int .i64 0) := HZw4.out 4; have z5 : w4.cell? ⟨(w.heap.size + 1), 5, none⟩ = some (.slice none 0 0) := HZw4.out 5; have z6 : w4.cell? ⟨(w.heap.size + 1), 6, none⟩ = some (.slice none 0 0) := HZw4.out 6; have z7 : w4.cell? ⟨(w.heap.size + 1), 7, none⟩ = some (.slice none 0 0) := HZw4.out 7; have z8 : w4.cell? ⟨(w.heap.size + 1), 8, none⟩ = some (.bool false) := HZw4.out 8; have xf := HXfw4.out; have zf := HZfw4.out; have hXl : w.heap.size < w4.heap.size := HlXw4.out; have hZl : (w.heap.size + 1) < w4.heap.size := HlZw4.out; obtain ⟨kb, bc, tb0⟩ := hr.bad; have hRl := hr.lt; clear hr hk))
  refine wp_loop_rounds 1 ?_
  rw [rounds_succ]
  go_wp2_with fail
  refine bodyPost_ret (v := .agg #[.int .i64 b, .int .i64 0, .int .i64 0, .int .u64 0, .int .i64 0, .slice none 0 0, .slice none 0 0, .slice none 0 0, .bool false]) (by simp [results, Tryz.results43, go_sem, x0, x1, x2, x3, x4, x5, x6, x7, x8, z0, z1, z2, z3, z4, z5, z6, z7, z8, hXl]) rfl ?_
  exact ⟨⟨⟨b, 0, 0, 0, 0, [], .nil, .nil, false⟩, ⟨none, 0, none, 0, none, 0⟩⟩, rfl, (((((((((HRw4.out.setOther hRX 0 _).setOther hRX 1 _).setOther hRX 2 _).setOther hRX 3 _).setOther hRX 4 _).setOther hRX 5 _).setOther hRX 6 _).setOther hRX 7 _).setOther hRX 8 _), (((((((((HKw4.out.setCell (p := ⟨w.heap.size, 0, none⟩) (.inr (Nat.le_refl _)) _).setCell (p := ⟨w.heap.size, 1, none⟩) (.inr (Nat.le_refl _)) _).setCell (p := ⟨w.heap.size, 2, none⟩) (.inr (Nat.le_refl _)) _).setCell (p := ⟨w.heap.size, 3, none⟩) (.inr (Nat.le_refl _)) _).setCell (p := ⟨w.heap.size, 4, none⟩) (.inr (Nat.le_refl _)) _).setCell (p := ⟨w.heap.size, 5, none⟩) (.inr (Nat.le_refl _)) _).setCell (p := ⟨w.heap.size, 6, none⟩) (.inr (Nat.le_refl _)) _).setCell (p := ⟨w.heap.size, 7, none⟩) (.inr (Nat.le_refl _)) _).setCell (p := ⟨w.heap.size, 8, none⟩) (.inr (Nat.le_refl _)) _)⟩

set_option maxHeartbeats 8000000 in
set_option maxRecDepth 100000 in
theorem insR_14k (h : Rf R w A c bs p n 0 0) (b : Int) (hbI : inI b) (depth : Nat) (k : Int) (hk : knd b = k) (t2 : (k == 2) = false) (t7 : (k == 7) = false) (t8 : (k == 8) = false) (t9 : (k == 9) = false) (u65 : (b == 65) = false) (u66 : (b == 66) = false) (u14 : (b == 14) = true) (m p1 : Nat) (hs1 : onI bs (.ok (p, n)) = ((m : Int), .ok (p1, n))) (hm : m ≤ 63) :
    Calls Tryz.prog 43 #[.pointer (some ⟨R, 0, none⟩), .int .i64 b, .int .i64 depth] w (InsQ R w A c bs (labR b n (rdTab (m + 1) (bs.drop p1) p1))) := by
  have hRX := h.lt
  have hRZ : R < w.heap.size + 1 := by omega
  have hzw : w.heap.size ≤ w.heap.size + 1 := by omega
  have HKd := Lib.hid (fun w => Kind_any b w)
  rw [hk] at HKd
  have HR0 := Lib.hid h
  have HI1 := Lib.hid (fun wx (h : Rf R wx A c bs p n 0 0) => Int_any (s := .ok (p, n)) h)
  rw [hs1] at HI1
  dsimp only at HI1
  clear h hk hs1
  have tm : decide (63 < (m : Int)) = false := by simp; omega
  have tm2 : decide (64 ≤ (m : Int)) = false := by simp; omega
  obtain ⟨M, hM⟩ : ∃ M : Nat, M = m + 1 := ⟨_, rfl⟩
  rw [← hM]
  obtain ⟨r, hr⟩ : ∃ r, r = rdTab M (bs.drop p1) p1 := ⟨_, rfl⟩
  rw [← hr]
  obtain ⟨P, hP⟩ : ∃ P, P = InsQ R w A c bs (labR b n r) := ⟨_, rfl⟩
  rw [← hP]
  have HP := Lib.hid hP
  have HRr := Lib.hid hr
  have HM := Lib.hid hM
  clear hP hr hM
  go_enter Tryz.func43, Tryz.ntmps43
  go_wp2_with (first
    | (go_at_call 34; ((with_reducible refine (HKd.out _).mono ?_); rintro e w2 ⟨rfl, hb2⟩; have HXw2 : Hid (∀ i, w2.cell? ⟨w.heap.size, i, none⟩ = (insZ 0)[i]?) := Lib.hid (fun i => (hb2.cell (p := ⟨w.heap.size, i, none⟩) (by simp; omega)).trans ((World.cell?_alloc_lt _ _ ⟨w.heap.size, i, none⟩ (by simp)).trans (World.cell?_alloc_at _ _ _ _ rfl))); have HZw2 : Hid (∀ i, w2.cell? ⟨(w.heap.size + 1), i, none⟩ = (insZ b)[i]?) := Lib.hid (fun i => (hb2.cell (p := ⟨(w.heap.size + 1), i, none⟩) (by simp)).trans (World.cell?_alloc_at _ _ _ _ (by simp))); have HXfw2 : Hid (∀ i, w2.frozen? ⟨w.heap.size, i, none⟩ = false) := Lib.hid (fun i => (hb2.frozen (p := ⟨w.heap.size, i, none⟩) (by simp; omega)).trans ((World.frozen?_alloc_old _ _ ⟨w.heap.size, i, none⟩ (by simp)).trans (World.frozen?_alloc_at _ _ _ _ rfl))); have HZfw2 : Hid (∀ i, w2.frozen? ⟨(w.heap.size + 1), i, none⟩ = false) := Lib.hid (fun i => (hb2.frozen (p := ⟨(w.heap.size + 1), i, none⟩) (by simp)).trans (World.frozen?_alloc_at _ _ _ _ (by simp))); have HlXw2 : Hid (w.heap.size < w2.heap.size) := Lib.hid (Nat.lt_of_lt_of_le (by simp; omega) hb2.size); have HlZw2 : Hid ((w.heap.size + 1) < w2.heap.size) := Lib.hid (Nat.lt_of_lt_of_le (by simp) hb2.size); have HRw2 : Hid (Rf R w2 A c bs p n 0 0) := Lib.hid ((HR0.out.later (((Below.refl _ _).alloc (Nat.le_refl _) _).alloc (by simp) _)).later hb2); have HKw2 : Hid (Kx (Only R) w w2) := Lib.hid (((Kx.refl_.alloc _).alloc _).trans (.of_below hb2)); clear hb2; have pc1 : w2.cell? ⟨R, 1, none⟩ = some (.int .i64 p) := HRw2.out.c1; have hRl : R < w2.heap.size := HRw2.out.lt; have x0 : w2.cell? ⟨w.heap.size, 0, none⟩ = some (.int .i64 0) := HXw2.out 0; have x1 : w2.cell? ⟨w.heap.size, 1, none⟩ = some (.int .i64 0) := HXw2.out 1; have x2 : w2.cell? ⟨w.heap.size, 2, none⟩ = some (.int .i64 0) := HXw2.out 2; have x3 : w2.cell? ⟨w.heap.size, 3, none⟩ = some (.int .u64 0) := HXw2.out 3; have x4 : w2.cell? ⟨w.heap.size, 4, none⟩ = some (.int .i64 0) := HXw2.out 4; have x5 : w2.cell? ⟨w.heap.size, 5, none⟩ = some (.slice none 0 0) := HXw2.out 5; have x6 : w2.cell? ⟨w.heap.size, 6, none⟩ = some (.slice none 0 0) := HXw2.out 6; have x7 : w2.cell? ⟨w.heap.size, 7, none⟩ = some (.slice none 0 0) := HXw2.out 7; have x8 : w2.cell? ⟨w.heap.size, 8, none⟩ = some (.bool false) := HXw2.out 8; have z0 : w2.cell? ⟨(w.heap.size + 1), 0, none⟩ = some (.int .i64 b) := HZw2.out 0; have z1 : w2.cell? ⟨(w.heap.size + 1), 1, none⟩ = some (.int .i64 0) := HZw2.out 1; have z2 : w2.cell? ⟨(w.heap.size + 1), 2, none⟩ = some (.int .i64 0) := HZw2.out 2; have z3 : w2.cell? ⟨(w.heap.size + 1), 3, none⟩ = some (.int .u64 0) := HZw2.out 3; have z4 : w2.cell? ⟨(w.heap.size + 1), 4, none⟩ = some (.int .i64 0) := HZw2.out 4; have z5 : w2.cell? ⟨(w.heap.size + 1), 5, none⟩ = some (.slice none 0 0) := HZw2.out 5; have z6 : w2.cell? ⟨(w.heap.size + 1), 6, none⟩ = some (.slice none 0 0) := HZw2.out 6; have z7 : w2.cell? ⟨(w.heap.size + 1), 7, none⟩ = some (.slice none 0 0) := HZw2.out 7; have z8 : w2.cell? ⟨(w.heap.size + 1), 8, none⟩ = some (.bool false) := HZw2.out 8; have xf := HXfw2.out; have zf := HZfw2.out; have hXl : w.heap.size < w2.heap.size := HlXw2.out; have hZl : (w.heap.size + 1) < w2.heap.size := HlZw2.out;))
    | (go_at_call 70; (with_reducible refine (HI1.out _ HRw2.out).mono ?_); rintro e w3 ⟨rfl, hr, hk⟩; clear x0 x1 x2 x3 x4 x5 x6 x7 x8 z0 z1 z2 z3 z4 z5 z6 z7 z8 xf zf hXl hZl; clear pc1; have hlx_ : w.heap.size < (w2).heap.size := HlXw2.out; have hlz_ : (w.heap.size + 1) < (w2).heap.size := HlZw2.out; have HXw3 := Lib.hid (fun i => (World.cell?_of_block (a := ⟨w.heap.size, i, none⟩) (hk.block _ hlx_ (by simp; omega))).trans (HXw2.out i)); have HZw3 := Lib.hid (fun i => (World.cell?_of_block (a := ⟨(w.heap.size + 1), i, none⟩) (hk.block _ hlz_ (by simp; omega))).trans (HZw2.out i)); have HXfw3 : Hid (∀ i, w3.frozen? ⟨w.heap.size, i, none⟩ = false) := Lib.hid (fun i => (hk.frozen hlx_ (by simp; omega)).trans (HXfw2.out i)); have HZfw3 : Hid (∀ i, w3.frozen? ⟨(w.heap.size + 1), i, none⟩ = false) := Lib.hid (fun i => (hk.frozen hlz_ (by simp; omega)).trans (HZfw2.out i)); have HlXw3 := Lib.hid (Nat.lt_of_lt_of_le hlx_ hk.size); have HlZw3 := Lib.hid (Nat.lt_of_lt_of_le hlz_ hk.size); have HKw3 := Lib.hid ((HKw2.out).trans hk); clear hlx_ hlz_; have HRw3 := Lib.hid hr; have x0 : w3.cell? ⟨w.heap.size, 0, none⟩ = some (.int .i64 0) := HXw3.out 0; have x1 : w3.cell? ⟨w.heap.size, 1, none⟩ = some (.int .i64 0) := HXw3.out 1; have x2 : w3.cell? ⟨w.heap.size, 2, none⟩ = some (.int .i64 0) := HXw3.out 2; have x3 : w3.cell? ⟨w.heap.size, 3, none⟩ = some (.int .u64 0) := HXw3.out 3; have x4 : w3.cell? ⟨w.heap.size, 4, none⟩ = some (.int .i64 0) := HXw3.out 4; have x5 : w3.cell? ⟨w.heap.size, 5, none⟩ = some (.slice none 0 0) := HXw3.out 5; have x6 : w3.cell? ⟨w.heap.size, 6, none⟩ = some (.slice none 0 0) := HXw3.out 6; have x7 : w3.cell? ⟨w.heap.size, 7, none⟩ = some (.slice none 0 0) := HXw3.out 7; have x8 : w3.cell? ⟨w.heap.size, 8, none⟩ = some (.bool false) := HXw3.out 8; have z0 : w3.cell? ⟨(w.heap.size + 1), 0, none⟩ = some (.int .i64 b) := HZw3.out 0; have z1 : w3.cell? ⟨(w.heap.size + 1), 1, none⟩ = some (.int .i64 0) := HZw3.out 1; have z2 : w3.cell? ⟨(w.heap.size + 1), 2, none⟩ = some (.int .i64 0) := HZw3.out 2; have z3 : w3.cell? ⟨(w.heap.size + 1), 3, none⟩ = some (.int .u64 0) := HZw3.out 3; have z4 : w3.cell? ⟨(w.heap.size + 1), 4, none⟩ = some (.int .i64 0) := HZw3.out 4; have z5 : w3.cell? ⟨(w.heap.size + 1), 5, none⟩ = some (.slice none 0 0) := HZw3.out 5; have z6 : w3.cell? ⟨(w.heap.size + 1), 6, none⟩ = some (.slice none 0 0) := HZw3.out 6; have z7 : w3.cell? ⟨(w.heap.size + 1), 7, none⟩ = some (.slice none 0 0) := HZw3.out 7; have z8 : w3.cell? ⟨(w.heap.size + 1), 8, none⟩ = some (.bool false) := HZw3.out 8; have xf := HXfw3.out; have zf := HZfw3.out; have hXl : w.heap.size < w3.heap.size := HlXw3.out; have hZl : (w.heap.size + 1) < w3.heap.size := HlZw3.out; clear hr hk))
  go_loopw [15] (fun i wr => LbR R w A c bs r n M b i wr) (fun i _ => M - (intOf i).toNat)
  case atStart =>
    exact ⟨0, [], .ok (p1, n), .slice none 0 0, Nat.zero_le _, rfl, rfl, by simp, ⟨rfl, by rw [HRr.out]; exact (preT_nil _).symm⟩, HRw3.out, HKw3.out, HXw3.out, HXfw3.out, HZw3.out, HZfw3.out, OwnK.nil_ _ _ _ _ (Below.refl _ _) (HlZw3.out)⟩
  case round =>
    obtain ⟨j, Lj, s, v, hj, rfl, hlj, hLI, htab, hrj, hkj, hX, hXf, hZ, hZf, hoj⟩ := hrel
    obtain ⟨A5, c5, hv, l5, m5, -⟩ := hoj.formB (by omega)
    rw [ones_length, n64s_length, hlj] at hv l5
    subst hv
    have hRl := hrj.lt
    have hXl : w.heap.size < wr.heap.size := blk_lt' (hX 0) (by simp)
    have hZl : (w.heap.size + 1) < wr.heap.size := blk_lt' (hZ 0) (by simp)
    have HRj := Lib.hid hrj
    have HKj := Lib.hid hkj
    have HXj := Lib.hid hX
    have HXfj := Lib.hid hXf
    have HZj := Lib.hid hZ
    have HZfj := Lib.hid hZf
    have HOj := Lib.hid hoj
    have HLI := Lib.hid hLI
    have HM2 := HM.out
    rcases s with er | ⟨q, nq⟩
    · have HPe : Hid (P = InsQ R w A c bs (.error er)) := Lib.hid (by rw [HP.out, show r = .error er from htab]; rfl)
      obtain ⟨kb, bc, tb0⟩ := hrj.bad
      have tl : ((j : Int) ≤ (m : Int) ∧ j ≤ m) ∨ (¬ (j : Int) ≤ (m : Int) ∧ ¬ j ≤ m) := by omega
      have xf := HXfj.out
      have zf := HZfj.out
      have x0 : wr.cell? ⟨w.heap.size, 0, none⟩ = some (.int .i64 0) := HXj.out 0
      have x1 : wr.cell? ⟨w.heap.size, 1, none⟩ = some (.int .i64 0) := HXj.out 1
      have x2 : wr.cell? ⟨w.heap.size, 2, none⟩ = some (.int .i64 0) := HXj.out 2
      have x3 : wr.cell? ⟨w.heap.size, 3, none⟩ = some (.int .u64 0) := HXj.out 3
      have x4 : wr.cell? ⟨w.heap.size, 4, none⟩ = some (.int .i64 0) := HXj.out 4
      have x5 : wr.cell? ⟨w.heap.size, 5, none⟩ = some (.slice none 0 0) := HXj.out 5
      have x6 : wr.cell? ⟨w.heap.size, 6, none⟩ = some (.slice none 0 0) := HXj.out 6
      have x7 : wr.cell? ⟨w.heap.size, 7, none⟩ = some (.slice none 0 0) := HXj.out 7
      have x8 : wr.cell? ⟨w.heap.size, 8, none⟩ = some (.bool false) := HXj.out 8
      have z0 : wr.cell? ⟨(w.heap.size + 1), 0, none⟩ = some (.int .i64 b) := HZj.out 0
      have z1 : wr.cell? ⟨(w.heap.size + 1), 1, none⟩ = some (.int .i64 0) := HZj.out 1
      have z2 : wr.cell? ⟨(w.heap.size + 1), 2, none⟩ = some (.int .i64 0) := HZj.out 2
      have z3 : wr.cell? ⟨(w.heap.size + 1), 3, none⟩ = some (.int .u64 0) := HZj.out 3
      have z4 : wr.cell? ⟨(w.heap.size + 1), 4, none⟩ = some (.int .i64 0) := HZj.out 4
      have z5 : wr.cell? ⟨(w.heap.size + 1), 5, none⟩ = some (.slice A5 j c5) := HZj.out 5
      have z6 : wr.cell? ⟨(w.heap.size + 1), 6, none⟩ = some (.slice none 0 0) := HZj.out 6
      have z7 : wr.cell? ⟨(w.heap.size + 1), 7, none⟩ = some (.slice none 0 0) := HZj.out 7
      have z8 : wr.cell? ⟨(w.heap.size + 1), 8, none⟩ = some (.bool false) := HZj.out 8
      clear hrj hkj hX hXf hZ hZf hoj hLI htab HM2
      rcases tl with ⟨tl, tl'⟩ | ⟨tl, tl'⟩
      all_goals
        go_wp2_with fail
        refine bodyPost_ret (v := .agg #[.int .i64 b, .int .i64 0, .int .i64 0, .int .u64 0, .int .i64 0, .slice A5 j c5, .slice none 0 0, .slice none 0 0, .bool false]) (by simp [results, Tryz.results43, go_sem, x0, x1, x2, x3, x4, x5, x6, x7, x8, z0, z1, z2, z3, z4, z5, z6, z7, z8, hXl]) rfl ?_
        rw [HPe.out]
        exact ⟨⟨⟨b, 0, 0, 0, 0, Lj, .nil, .nil, false⟩, ⟨A5, c5, none, 0, none, 0⟩⟩, by simp only [insC, hlj]; rfl, (((((((((HRj.out.setOther hRX 0 _).setOther hRX 1 _).setOther hRX 2 _).setOther hRX 3 _).setOther hRX 4 _).setOther hRX 5 _).setOther hRX 6 _).setOther hRX 7 _).setOther hRX 8 _), (((((((((HKj.out.setCell (p := ⟨w.heap.size, 0, none⟩) (.inr (Nat.le_refl _)) _).setCell (p := ⟨w.heap.size, 1, none⟩) (.inr (Nat.le_refl _)) _).setCell (p := ⟨w.heap.size, 2, none⟩) (.inr (Nat.le_refl _)) _).setCell (p := ⟨w.heap.size, 3, none⟩) (.inr (Nat.le_refl _)) _).setCell (p := ⟨w.heap.size, 4, none⟩) (.inr (Nat.le_refl _)) _).setCell (p := ⟨w.heap.size, 5, none⟩) (.inr (Nat.le_refl _)) _).setCell (p := ⟨w.heap.size, 6, none⟩) (.inr (Nat.le_refl _)) _).setCell (p := ⟨w.heap.size, 7, none⟩) (.inr (Nat.le_refl _)) _).setCell (p := ⟨w.heap.size, 8, none⟩) (.inr (Nat.le_refl _)) _)⟩
    · have hrj2 : Rf R wr A c bs q nq 0 0 := hrj
      obtain ⟨rfl, htab2⟩ : nq = n ∧ r = preT Lj (rdTab (M - j) (bs.drop q) q) := htab
      have bc := hrj2.c3
      have xf := HXfj.out
      have zf := HZfj.out
      by_cases hlt : j < M
      · have tl : (j : Int) ≤ (m : Int) := by omega
        have tl' : j ≤ m := by omega
        obtain ⟨k', hk'⟩ : ∃ k', M - j = k' + 1 := ⟨M - j - 1, by omega⟩
        have hnx := tabI_next (r := r) (L := Lj) (n0 := nq) (k := k') (n := nq) ⟨rfl, by rw [← hk']; exact htab2⟩ hrj2.hp
        have HIx := Lib.hid (Int_any (s := .ok (q, nq)) hrj2)
        obtain ⟨y0, y1⟩ := onInt_range bs (.ok (q, nq))
        obtain ⟨y, hy⟩ : ∃ y, y = (onI bs (.ok (q, nq))).1 := ⟨_, rfl⟩
        obtain ⟨s', hs'⟩ : ∃ s', s' = (onI bs (.ok (q, nq))).2 := ⟨_, rfl⟩
        rw [← hy, ← hs'] at HIx hnx
        rw [← hy] at y0 y1
        have fin : ∀ (w2 w3 : World) (v3 : Value), RfS R w2 A c bs s' → Kx (Only R) wr w2 → OwnK (w.heap.size + 2) w2 w3 3 1 v3 (ones (n64s Lj) ++ [[.int .i64 y]]) →
            (∀ g, g < w2.heap.size → (Value.slice A5 j c5).ownBlock ≠ some g → w3.heap[g]? = w2.heap[g]? ∧ v3.ownBlock ≠ some g) → w2.heap.size ≤ w3.heap.size → w3.cell? ⟨(w.heap.size + 1), 5, none⟩ = some (.slice A5 j c5) ∧ w3.frozen? ⟨(w.heap.size + 1), 5, none⟩ = false ∧ (w.heap.size + 1) < w3.heap.size ∧ LbR R w A c bs r nq M b (.int .i64 ((j : Int) + 1)) (w3.setCell ⟨(w.heap.size + 1), 5, none⟩ v3) := fun w2 w3 v3 hr2 hk2 ho3 hkp hs3 => by
          have how : ∀ g, (Value.slice A5 j c5).ownBlock = some g → w.heap.size + 2 ≤ g ∧ g < wr.heap.size := fun g hg => HOj.out.own_lt hg
          have hsz2 := hk2.size
          have hsz3 : w2.heap.size ≤ w3.heap.size := hs3
          have hkx : Kx (fun g => (Value.slice A5 j c5).ownBlock = some g) w2 w3 := ⟨ho3.below.os, ho3.below.tape, ho3.below.output, hsz3, fun g hg hm => (hkp g hg hm).1⟩
          have hnX : ¬ (Value.slice A5 j c5).ownBlock = some w.heap.size := fun e => by have := (how _ e).1; omega
          have hnZ : ¬ (Value.slice A5 j c5).ownBlock = some (w.heap.size + 1) := fun e => by have := (how _ e).1; omega
          have hZ3 : ∀ i, w3.cell? ⟨(w.heap.size + 1), i, none⟩ = (insL b (.slice A5 j c5))[i]? := fun i => (World.cell?_of_block (hkx.block (w.heap.size + 1) (by omega) hnZ)).trans ((World.cell?_of_block (hk2.block (w.heap.size + 1) hZl (by simp; omega))).trans (HZj.out i))
          have hZf3 : ∀ i, w3.frozen? ⟨(w.heap.size + 1), i, none⟩ = false := fun i => (hkx.frozen (by omega) hnZ).trans ((hk2.frozen hZl (by simp; omega)).trans (HZfj.out i))
          have hX3 : ∀ i, w3.cell? ⟨w.heap.size, i, none⟩ = (insZ 0)[i]? := fun i => (World.cell?_of_block (hkx.block w.heap.size (by omega) hnX)).trans ((World.cell?_of_block (hk2.block w.heap.size hXl (by simp; omega))).trans (HXj.out i))
          have hXf3 : ∀ i, w3.frozen? ⟨w.heap.size, i, none⟩ = false := fun i => (hkx.frozen (by omega) hnX).trans ((hk2.frozen hXl (by simp; omega)).trans (HXfj.out i))
          have hr3 : RfS R w3 A c bs s' := hr2.kx hkx (fun e => by have := (how R e).1; omega) (fun g hg => by have := (how g hg).1; omega)
          have hk3 : Kx (Only R) w w3 := (HKj.out.trans hk2).trans' hkx (fun g hg => .inr (by have := (how g hg).1; omega))
          have hne3 : v3.ownBlock ≠ some (w.heap.size + 1) := (hkp (w.heap.size + 1) (by omega) hnZ).2
          refine ⟨hZ3 5, hZf3 5, by omega, j + 1, Lj ++ [y], s', v3, by omega, by simp, by simp [hlj], fun z hz => ?_, by rw [show M - (j + 1) = k' by omega]; exact hnx, hr3.setOther hRZ 5 v3, hk3.setCell (p := ⟨(w.heap.size + 1), 5, none⟩) (.inr hzw) v3, fun i => ?_, fun i => (World.frozen?_setCell _ _ _ _).trans (hXf3 i), fun i => ?_, fun i => (World.frozen?_setCell _ _ _ _).trans (hZf3 i), ?_⟩
          · rcases List.mem_append.1 hz with hz | hz
            · exact HLI.out z hz
            · simp at hz; subst hz; unfold inI; omega
          · rw [World.cell?_setCell_other _ _ _ _ (by intro e; injection e with e; omega)]; exact hX3 i
          · rw [arr_set hZ3 (by simp) i]; rfl
          · have ho4 := ho3.self
            rw [show ones (n64s Lj) ++ [[.int .i64 y]] = ones (n64s (Lj ++ [y])) by simp [ones, n64s]] at ho4
            exact OwnK.setLow ho4 (by omega) 5 v3
        have FIN := Lib.hid fin
        have xz5 : wr.cell? ⟨(w.heap.size + 1), 5, none⟩ = some (.slice A5 j c5) := HZj.out 5
        have hyI : (Value.int .i64 y).oneCell' = true := rfl
        have HLj := Lib.hid hlj
        clear hrj hrj2 hkj hX hXf hZ hZf hoj hLI htab2 hnx hy hs' fin HM2 hlj hk'
        go_wp2_with (first
          | (go_at_call 70; (with_reducible refine HIx.out.mono ?_); rintro e w2 ⟨rfl, hr, hk⟩; have HR2 := Lib.hid hr; have HK2 := Lib.hid hk; have yz5 : w2.cell? ⟨(w.heap.size + 1), 5, none⟩ = some (.slice A5 j c5) := hk.cell (by simp; omega) xz5; have hZl2 : (w.heap.size + 1) < w2.heap.size := Nat.lt_of_lt_of_le hZl hk.size; have HO2 : Hid (OwnK (w.heap.size + 2) w2 w2 3 1 (.slice A5 j c5) (ones (n64s Lj))) := Lib.hid (HOj.out.kx hk (by omega)); clear hr hk)
          | (at_builtin; refine wpList_pushK (v := .slice A5 j c5) rfl (.tmp 122) (.tmp 124) _ rfl 8 Tryz.underlying47 elem_int (by decide) _ _ _ rfl (HO2.out) rfl rfl rfl (by simp; rfl) (by rw [ones_length, n64s_length, HLj.out]; omega) (by rw [ones_length, n64s_length, HLj.out]; unfold maxLen; omega) ?_; intro v3 w3 ho3 hk3 hs3; obtain ⟨A6, c6, hv6, -, -, -⟩ := ho3.formB (by have := HKj.out.size; omega); rw [List.length_append, ones_length, n64s_length, List.length_singleton] at hv6; subst hv6; obtain ⟨u5, uf5, hZl3, hrel3⟩ := FIN.out w2 w3 _ HR2.out HK2.out ho3 hk3 hs3; have HF := Lib.hid hrel3; clear ho3 hk3 hs3 hrel3))
        go_roundw
        case rel => first | exact HF.out | ((repeat apply Exists.intro); exact ⟨HF.out, rfl⟩)
        case measure => simp [intOf]; omega
      · have tl : ¬ (j : Int) ≤ (m : Int) := by omega
        have tl' : ¬ j ≤ m := by omega
        have hjM : j = M := by omega
        have HPe : Hid (P = InsQ R w A c bs (.ok ((⟨b, 0, 0, 0, 0, Lj, .nil, .nil, false⟩, nq), bs.drop q, q))) := Lib.hid (by rw [HP.out, htab2, hjM, Nat.sub_self]; simp [rdTab, preT, labR])
        have HNS : Hid (NewS (fun g => (Value.slice A5 j c5).ownBlock = some g) wr wr.heap.size A5 (n64s Lj)) := Lib.hid (HOj.out.newS fun g hg => hg)
        have x0 : wr.cell? ⟨w.heap.size, 0, none⟩ = some (.int .i64 0) := HXj.out 0
        have x1 : wr.cell? ⟨w.heap.size, 1, none⟩ = some (.int .i64 0) := HXj.out 1
        have x2 : wr.cell? ⟨w.heap.size, 2, none⟩ = some (.int .i64 0) := HXj.out 2
        have x3 : wr.cell? ⟨w.heap.size, 3, none⟩ = some (.int .u64 0) := HXj.out 3
        have x4 : wr.cell? ⟨w.heap.size, 4, none⟩ = some (.int .i64 0) := HXj.out 4
        have x5 : wr.cell? ⟨w.heap.size, 5, none⟩ = some (.slice none 0 0) := HXj.out 5
        have x6 : wr.cell? ⟨w.heap.size, 6, none⟩ = some (.slice none 0 0) := HXj.out 6
        have x7 : wr.cell? ⟨w.heap.size, 7, none⟩ = some (.slice none 0 0) := HXj.out 7
        have x8 : wr.cell? ⟨w.heap.size, 8, none⟩ = some (.bool false) := HXj.out 8
        have z0 : wr.cell? ⟨(w.heap.size + 1), 0, none⟩ = some (.int .i64 b) := HZj.out 0
        have z1 : wr.cell? ⟨(w.heap.size + 1), 1, none⟩ = some (.int .i64 0) := HZj.out 1
        have z2 : wr.cell? ⟨(w.heap.size + 1), 2, none⟩ = some (.int .i64 0) := HZj.out 2
        have z3 : wr.cell? ⟨(w.heap.size + 1), 3, none⟩ = some (.int .u64 0) := HZj.out 3
        have z4 : wr.cell? ⟨(w.heap.size + 1), 4, none⟩ = some (.int .i64 0) := HZj.out 4
        have z5 : wr.cell? ⟨(w.heap.size + 1), 5, none⟩ = some (.slice A5 j c5) := HZj.out 5
        have z6 : wr.cell? ⟨(w.heap.size + 1), 6, none⟩ = some (.slice none 0 0) := HZj.out 6
        have z7 : wr.cell? ⟨(w.heap.size + 1), 7, none⟩ = some (.slice none 0 0) := HZj.out 7
        have z8 : wr.cell? ⟨(w.heap.size + 1), 8, none⟩ = some (.bool false) := HZj.out 8
        clear hrj hrj2 hkj hX hXf hZ hZf hoj hLI htab2 HM2 hjM
        go_wp2_with fail
        refine bodyPost_ret (v := .agg #[.int .i64 b, .int .i64 0, .int .i64 0, .int .u64 0, .int .i64 0, .slice A5 j c5, .slice none 0 0, .slice none 0 0, .bool false]) (by simp [results, Tryz.results43, go_sem, x0, x1, x2, x3, x4, x5, x6, x7, x8, z0, z1, z2, z3, z4, z5, z6, z7, z8, hXl]) rfl ?_
        rw [HPe.out]
        have how : ∀ g, (Value.slice A5 j c5).ownBlock = some g → w.heap.size + 2 ≤ g ∧ g < wr.heap.size := fun g hg => HOj.out.own_lt hg
        refine ⟨⟨A5, c5, none, 0, none, 0⟩, by simp only [insC, hlj]; rfl, newN_lab hbI HLI.out (by omega) m5 (NewS.mv HNS.out (lo := w.heap.size + 2) how (((((((((Kx.refl_.setCell (p := ⟨w.heap.size, 0, none⟩) (.inl (show w.heap.size < w.heap.size + 2 from Nat.lt_add_of_pos_right (by decide))) _).setCell (p := ⟨w.heap.size, 1, none⟩) (.inl (show w.heap.size < w.heap.size + 2 from Nat.lt_add_of_pos_right (by decide))) _).setCell (p := ⟨w.heap.size, 2, none⟩) (.inl (show w.heap.size < w.heap.size + 2 from Nat.lt_add_of_pos_right (by decide))) _).setCell (p := ⟨w.heap.size, 3, none⟩) (.inl (show w.heap.size < w.heap.size + 2 from Nat.lt_add_of_pos_right (by decide))) _).setCell (p := ⟨w.heap.size, 4, none⟩) (.inl (show w.heap.size < w.heap.size + 2 from Nat.lt_add_of_pos_right (by decide))) _).setCell (p := ⟨w.heap.size, 5, none⟩) (.inl (show w.heap.size < w.heap.size + 2 from Nat.lt_add_of_pos_right (by decide))) _).setCell (p := ⟨w.heap.size, 6, none⟩) (.inl (show w.heap.size < w.heap.size + 2 from Nat.lt_add_of_pos_right (by decide))) _).setCell (p := ⟨w.heap.size, 7, none⟩) (.inl (show w.heap.size < w.heap.size + 2 from Nat.lt_add_of_pos_right (by decide))) _).setCell (p := ⟨w.heap.size, 8, none⟩) (.inl (show w.heap.size < w.heap.size + 2 from Nat.lt_add_of_pos_right (by decide))) _) (by omega)), (((((((((HRj.out.setOther hRX 0 _).setOther hRX 1 _).setOther hRX 2 _).setOther hRX 3 _).setOther hRX 4 _).setOther hRX 5 _).setOther hRX 6 _).setOther hRX 7 _).setOther hRX 8 _), (((((((((HKj.out.setCell (p := ⟨w.heap.size, 0, none⟩) (.inr (Nat.le_refl _)) _).setCell (p := ⟨w.heap.size, 1, none⟩) (.inr (Nat.le_refl _)) _).setCell (p := ⟨w.heap.size, 2, none⟩) (.inr (Nat.le_refl _)) _).setCell (p := ⟨w.heap.size, 3, none⟩) (.inr (Nat.le_refl _)) _).setCell (p := ⟨w.heap.size, 4, none⟩) (.inr (Nat.le_refl _)) _).setCell (p := ⟨w.heap.size, 5, none⟩) (.inr (Nat.le_refl _)) _).setCell (p := ⟨w.heap.size, 6, none⟩) (.inr (Nat.le_refl _)) _).setCell (p := ⟨w.heap.size, 7, none⟩) (.inr (Nat.le_refl _)) _).setCell (p := ⟨w.heap.size, 8, none⟩) (.inr (Nat.le_refl _)) _)⟩
end
end Go.Proofs.YtbhniddgkdldlaaGreatDoor
