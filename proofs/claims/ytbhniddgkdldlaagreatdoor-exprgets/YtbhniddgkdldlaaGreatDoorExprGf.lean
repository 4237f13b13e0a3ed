/- Layer 6's reader: contract of expr.reader's block, given what list does. -/
import Derived.Test.YtbhniddgkdldlaaGreatDoorExprGy
set_option linter.unusedVariables false
set_option linter.unusedSimpArgs false
namespace Go.Proofs.YtbhniddgkdldlaaGreatDoor.Trx
/-- an else may not be read where none may be. -/
def finE (mayE : Bool) : Rs (Fo × Nat × Nat) → Rs (Fo × Nat × Nat)
  | .error e => .error e
  | .ok ((f, last, n), l, p) => if last = 5 ∧ mayE = false then .error (2, p - 1) else .ok ((f, last, n), l, p)
/-- a block, behind its operation's byte; depth: its own. -/
def rdB (fuel depth n : Nat) (b : Int) (l : List UInt8) (p : Nat) : Rs (Nd × Nat) := match rdKind l p with
  | .error e => .error e
  | .ok (t, l1, p1) => match finE (b == 4) (rdL fuel depth n l1 p1) with
    | .error e => .error e
    | .ok ((body, last, n2), l2, p2) => if last = 5 then (match finE false (rdL fuel depth n2 l2 p2) with
        | .error e => .error e
        | .ok ((els, _, n3), l3, p3) => .ok ((⟨b, 0, 0, 0, t, [], body, els, true⟩, n3), l3, p3))
      else .ok ((⟨b, 0, 0, 0, t, [], body, .nil, false⟩, n2), l2, p2)
theorem rdI_block (fuel depth n : Nat) (b : Int) (l : List UInt8) (p : Nat) (h : knd b = 2) : rdI fuel depth n b l p = rdB fuel (depth + 1) n b l p := by
  unfold rdI rdB
  rw [if_pos h]
  rcases rdKind l p with e | ⟨t, l1, p1⟩
  · rfl
  simp only
  rcases rdL fuel (depth + 1) n l1 p1 with e | ⟨⟨body, last, n2⟩, l2, p2⟩
  · rfl
  simp only [finE]
  by_cases h5 : last = 5
  · by_cases h4 : b = 4
    · have e4 : (b == 4) = true := by simp [h4]
      rw [if_pos ⟨h5, h4⟩, e4, if_neg (by simp)]
      simp only
      rw [if_pos h5]
      rcases rdL fuel (depth + 1) n2 l2 p2 with e | ⟨⟨els, last2, n3⟩, l3, p3⟩
      · rfl
      simp only [finE]
      by_cases h7 : last2 = 5
      · rw [if_pos h7, if_pos (by simp [h7])]
      · rw [if_neg h7, if_neg (by simp [h7])]
    · have e4 : (b == 4) = false := by simp [h4]
      rw [if_neg (by simp [h4]), if_pos h5, e4, if_pos ⟨h5, rfl⟩]
  · rw [if_neg (by simp [h5]), if_neg h5, if_neg (by simp [h5])]
    simp only
    rw [if_neg h5]
end Go.Proofs.YtbhniddgkdldlaaGreatDoor.Trx
namespace Go.Proofs.YtbhniddgkdldlaaGreatDoor
open Go.RowKit Trx
/-- what list leaves. -/
def ListP (R : Nat) (w : World) (A : Option Addr) (c : Nat) (bs : List UInt8) : Rs (Fo × Nat × Nat) → Ending → World → Prop
  | .error er, e, w' => ∃ v, e = .returned (.tuple #[.slice none 0 0, .int .u8 0, v]) ∧ SpotIs w' v er.2 er.1 ∧ Kx (Only R) w w'
  | .ok ((f, last, n'), _, p'), e, w' => ∃ A' c', e = .returned (.tuple #[.slice A' (len f) c', .int .u8 last, .nilIface]) ∧ len f ≤ c' ∧ c' ≤ maxLen ∧ NewF (Win w.heap.size w') w' w'.heap.size A' f ∧ Rdr R w' A c bs p' n' ∧ Kx (Only R) w w'
/-- what list does, of so many bytes. -/
def ListC (fuel : Nat) : Prop := ∀ (R : Nat) (w : World) (A : Option Addr) (c : Nat) (bs : List UInt8) (p n depth : Nat) (mayE : Bool), Rdr R w A c bs p n → bs.length - p < fuel → depth ≤ 32 → n ≤ 512 →
  Calls Tryz.prog 24 #[.pointer (some ⟨R, 0, none⟩), .int .i64 depth, .bool mayE] w (ListP R w A c bs (finE mayE (rdL fuel depth n (bs.drop p) p)))
/-- two blocks. -/
@[reducible] def Two (R X : Nat) : Nat → Prop := fun b => b = R ∨ b = X
def notIf : Value → Bool
  | .iface _ _ => false
  | _ => true
theorem no_spotA {w : World} {X sb so : Nat} {C : Array Value} {k : Int} (hX : ∀ i, w.cell? ⟨X, i, none⟩ = C[i]?) (hC : C.toList.all notIf = true) (h : w.cell? ⟨sb, so + 1, none⟩ = some (.iface 32 (.int .i64 k))) : sb ≠ X := fun e => by
  subst e
  rw [hX] at h
  obtain ⟨hi, hg⟩ := Array.getElem?_eq_some_iff.1 h
  have := List.all_eq_true.1 hC C[so + 1] (Array.mem_toList_iff.2 (Array.getElem_mem hi))
  rw [hg] at this
  cases this
theorem World.size_setCell (w : World) (a : Addr) (u : Value) : (w.setCell a u).heap.size = w.heap.size := by simp [World.setCell]
theorem arr_set {w : World} {X k : Nat} {C : Array Value} {u : Value} (hX : ∀ i, w.cell? ⟨X, i, none⟩ = C[i]?) (hk : k < C.size) (i : Nat) : (w.setCell ⟨X, k, none⟩ u).cell? ⟨X, i, none⟩ = (C.setIfInBounds k u)[i]? := by
  by_cases e : i = k
  · subst e
    rw [World.cell?_setCell_same _ _ _ ((hX i).trans (Array.getElem?_eq_getElem hk))]
    simp [hk]
  · rw [World.cell?_setCell_other _ _ _ _ (by intro h; injection h with _ h; omega), hX i, Array.getElem?_setIfInBounds_ne (by omega)]
/-- an instruction of which only the operation is known. -/
@[reducible] def insZ (b : Int) : Array Value := #[.int .i64 b, .int .i64 0, .int .i64 0, .int .u64 0, .int .i64 0, .slice none 0 0, .slice none 0 0, .slice none 0 0, .bool false]
/-- what block leaves. -/
def BlkP (R X : Nat) (w : World) (A : Option Addr) (c : Nat) (bs : List UInt8) : Rs (Nd × Nat) → Ending → World → Prop
  | .error er, e, w' => ∃ (v : Value) (C : In), e = .returned v ∧ SpotIs w' v er.2 er.1 ∧ (∀ i, w'.cell? ⟨X, i, none⟩ = (insC C.n C.p)[i]?) ∧ Kx (Two R X) w w'
  | .ok ((nd, n'), _, p'), e, w' => ∃ pl, e = .returned .nilIface ∧ (∀ i, w'.cell? ⟨X, i, none⟩ = (insC nd pl)[i]?) ∧ NewN (Win w.heap.size w') w' w'.heap.size ⟨nd, pl⟩ ∧ Rdr R w' A c bs p' n' ∧ Kx (Two R X) w w'
section
variable {R X : Nat} {w w' : World} {A : Option Addr} {c : Nat} {bs : List UInt8} {p n : Nat}
theorem Kx.two (h : Kx (Only R) w w') : Kx (Two R X) w w' := h.mono fun _ hb => .inl hb

theorem inI0 : inI 0 := ⟨by decide, by decide⟩
theorem inU0 : inU 0 := ⟨by decide, by decide⟩
theorem newN_blk {S : Nat → Prop} {w : World} {B : Nat} {b t : Int} {body els : Fo} {he : Bool} {Ab Ae : Option Addr} {cb ce : Nat} (hb : inI b) (ht : inI t) (hB : NewF S w B Ab body) (hE : NewF S w B Ae els) (l1 : len body ≤ cb) (m1 : cb ≤ maxLen) (l2 : len els ≤ ce) (m2 : ce ≤ maxLen) :
    NewN S w B ⟨⟨b, 0, 0, 0, t, [], body, els, he⟩, ⟨none, 0, Ab, cb, Ae, ce⟩⟩ := fun w' ha =>
  ⟨⟨hb, inI0, inI0, inU0, ht, by simp, Nat.le_refl _, Nat.zero_le _, Sl.nil_, l1, m1, l2, m2⟩, hB w' ha, hE w' ha⟩
theorem NewF.none_ {S : Nat → Prop} {w : World} {B : Nat} {A : Option Addr} : NewF S w B A .nil := fun _ _ => RdS.nil_
theorem finE_ok {mayE : Bool} {r : Rs (Fo × Nat × Nat)} {x : (Fo × Nat × Nat) × List UInt8 × Nat} (h : finE mayE r = .ok x) : r = .ok x ∧ (x.1.2.1 = 5 → mayE = true) := by
  rcases r with e | ⟨⟨f, last, n⟩, l, p⟩
  · cases h
  · simp only [finE] at h
    split at h
    · cases h
    · rename_i hn
      injection h with h
      subst h
      refine ⟨rfl, fun h5 => ?_⟩
      cases mayE with
      | true => rfl
      | false => exact absurd ⟨h5, rfl⟩ hn
set_option maxHeartbeats 4000000 in
set_option maxRecDepth 100000 in
theorem block_any {fuel : Nat} (hL : ListC fuel) (h : Rdr R w A c bs p n) (b : Int) (depth : Nat) (hX : ∀ i, w.cell? ⟨X, i, none⟩ = (insZ b)[i]?) (hf : ∀ i, w.frozen? ⟨X, i, none⟩ = false) (hRX : R < X) (hfu : bs.length - p < fuel) (hd : depth ≤ 32) (hn : n ≤ 512) (hbI : inI b) :
    Calls Tryz.prog 64 #[.pointer (some ⟨R, 0, none⟩), .pointer (some ⟨X, 0, none⟩), .int .i64 depth] w (BlkP R X w A c bs (rdB fuel depth n b (bs.drop p) p)) := by
  have hXl : X < w.heap.size := World.block_lt_of_cell? _ _ ((hX 0).trans rfl)
  have x0 : w.cell? ⟨X, 0, none⟩ = some (.int .i64 b) := hX 0
  unfold rdB
  cases hk : rdKind (bs.drop p) p with
  | error er =>
    have HN := Lib.hid (result_err h er hk)
    have HX := Lib.hid hX
    clear h hk hX hf hL
    unfold BlkP
    go_enter Tryz.func64, Tryz.ntmps64
    go_wp2_with (first | (go_at_call 86; (with_reducible refine HN.out.mono ?_); rintro e w1 ⟨v, rfl, ⟨sb, so, rfl, hs1, hs2⟩, hk⟩; have HS1 := Lib.hid hs1; have HS2 := Lib.hid hs2; have HK := Lib.hid hk; clear hs1 hs2 hk))
    go_ret
    exact ⟨_, ⟨⟨b, 0, 0, 0, 0, [], .nil, .nil, false⟩, ⟨none, 0, none, 0, none, 0⟩⟩, rfl, ⟨sb, so, rfl, HS1.out, HS2.out⟩, fun i => (World.cell?_of_block (a := ⟨X, i, none⟩) (HK.out.block X hXl (by simp; omega))).trans (HX.out i), HK.out.two⟩
  | ok r =>
    obtain ⟨t, l1, p1⟩ := r
    obtain ⟨ht, hadv⟩ := kind_got hk
    obtain ⟨rfl, hpp, hp1⟩ := Adv.dropped hadv h.hp
    have HN := Lib.hid (result_ok h t _ p1 hk)
    simp only
    have HL := Lib.hid hL
    have HX := Lib.hid hX
    have HF := Lib.hid hf
    have hfu1 : bs.length - p1 < fuel := by omega
    clear h hk hX hf hL hadv
    have hXl4 : ∀ w1 : World, X < w1.heap.size → X < (w1.setCell ⟨X, 4, none⟩ (.int .i64 t)).heap.size := fun w1 h => by simpa [World.setCell] using h
    cases hf1 : finE (b == 4) (rdL fuel depth n (bs.drop p1) p1) with
    | error er =>
      have HLi : Hid (∀ w', Rdr R w' A c bs p1 n → Calls Tryz.prog 24 #[.pointer (some ⟨R, 0, none⟩), .int .i64 depth, .bool (b == 4)] w' (ListP R w' A c bs (.error er))) := Lib.hid fun w' hr => by
        rw [← hf1]; exact HL.out R w' A c bs p1 n depth (b == 4) hr hfu1 hd hn
      unfold ListP at HLi
      clear hf1
      unfold BlkP
      go_enter Tryz.func64, Tryz.ntmps64
      go_wp2_with (first
        | (go_at_call 86; (with_reducible refine HN.out.mono ?_); rintro e w1 ⟨rfl, hr1, hk1⟩; have f9 := (fun i => (World.cell?_of_block (a := ⟨X, i, none⟩) (hk1.block X hXl (by simp; omega))).trans (HX.out i)); have ff : ∀ i, w1.frozen? ⟨X, i, none⟩ = false := (fun i => (hk1.frozen hXl (by simp; omega)).trans (HF.out i)); have y0 : w1.cell? ⟨X, 0, none⟩ = some (.int .i64 b) := f9 0; have y4 : w1.cell? ⟨X, 4, none⟩ = some (.int .i64 0) := f9 4; have yf := ff 4; have hXl1 := Nat.lt_of_lt_of_le hXl hk1.size; have HR1 := Lib.hid (hr1.setOther hRX 4 (.int .i64 t)); have HA1 := Lib.hid (arr_set (k := 4) (u := .int .i64 t) f9 (by simp)); have HK1 := Lib.hid ((hk1.two (X := X)).setCell (p := ⟨X, 4, none⟩) (.inl (.inr rfl)) (.int .i64 t)); have HFF := Lib.hid (fun i => (World.frozen?_setCell w1 ⟨X, 4, none⟩ ⟨X, i, none⟩ (.int .i64 t)).trans (ff i)); clear hr1 hk1 f9 ff)
        | (go_at_call 24; (with_reducible refine (HLi.out _ HR1.out).mono ?_); rintro e w2 ⟨v, rfl, ⟨sb, so, rfl, hs1, hs2⟩, hk2⟩; have HA2 := Lib.hid (fun i => (World.cell?_of_block (a := ⟨X, i, none⟩) (hk2.block X (hXl4 _ hXl1) (by simp; omega))).trans (HA1.out i)); have HS1 := Lib.hid hs1; have HS2 := Lib.hid hs2; have HK2 := Lib.hid (HK1.out.trans hk2.two); clear hs1 hs2 hk2))
      go_ret
      exact ⟨_, ⟨⟨b, 0, 0, 0, t, [], .nil, .nil, false⟩, ⟨none, 0, none, 0, none, 0⟩⟩, rfl, ⟨sb, so, rfl, HS1.out, HS2.out⟩, HA2.out, HK2.out⟩
    | ok x =>
      obtain ⟨⟨body, last, n2⟩, l2, p2⟩ := x
      obtain ⟨hrl, hmay⟩ := finE_ok hf1
      have hgot := rdL_got _ _ _ _ _ _ _ _ _ _ hrl hn hd
      obtain ⟨rfl, hpp2, hp2⟩ := Adv.dropped hgot.adv hp1
      have HLi : Hid (∀ w', Rdr R w' A c bs p1 n → Calls Tryz.prog 24 #[.pointer (some ⟨R, 0, none⟩), .int .i64 depth, .bool (b == 4)] w' (ListP R w' A c bs (.ok ((body, last, n2), bs.drop p2, p2)))) := Lib.hid fun w' hr => by
        rw [← hf1]; exact HL.out R w' A c bs p1 n depth (b == 4) hr hfu1 hd hn
      unfold ListP at HLi
      simp only
      have htI : inI t := by unfold inI; omega
      have hn2 := hgot.le
      have hlast := hgot.last
      clear hf1 hrl hgot
      rcases hlast with rfl | rfl
      · have e4 : (b == 4) = true := hmay rfl
        rw [if_pos rfl]
        rw [e4] at HLi
        have hfu2 : bs.length - p2 < fuel := by omega
        clear hmay
        cases hf2 : finE false (rdL fuel depth n2 (bs.drop p2) p2) with
        | error er =>
          have HLj : Hid (∀ w', Rdr R w' A c bs p2 n2 → Calls Tryz.prog 24 #[.pointer (some ⟨R, 0, none⟩), .int .i64 depth, .bool false] w' (ListP R w' A c bs (.error er))) := Lib.hid fun w' hr => by
            rw [← hf2]; exact HL.out R w' A c bs p2 n2 depth false hr hfu2 hd hn2
          unfold ListP at HLj
          clear hf2
          simp only
          unfold BlkP
          go_enter Tryz.func64, Tryz.ntmps64
          go_wp2_with (first
            | (go_at_call 86; (with_reducible refine HN.out.mono ?_); rintro e w1 ⟨rfl, hr1, hk1⟩; have f9 := (fun i => (World.cell?_of_block (a := ⟨X, i, none⟩) (hk1.block X hXl (by simp; omega))).trans (HX.out i)); have ff : ∀ i, w1.frozen? ⟨X, i, none⟩ = false := (fun i => (hk1.frozen hXl (by simp; omega)).trans (HF.out i)); have y0 : w1.cell? ⟨X, 0, none⟩ = some (.int .i64 b) := f9 0; have y4 : w1.cell? ⟨X, 4, none⟩ = some (.int .i64 0) := f9 4; have yf := ff 4; have hXl1 := Nat.lt_of_lt_of_le hXl hk1.size; have HR1 := Lib.hid (hr1.setOther hRX 4 (.int .i64 t)); have HA1 := Lib.hid (arr_set (k := 4) (u := .int .i64 t) f9 (by simp)); have HK1 := Lib.hid ((hk1.two (X := X)).setCell (p := ⟨X, 4, none⟩) (.inl (.inr rfl)) (.int .i64 t)); have HFF := Lib.hid (fun i => (World.frozen?_setCell w1 ⟨X, 4, none⟩ ⟨X, i, none⟩ (.int .i64 t)).trans (ff i)); clear hr1 hk1 f9 ff)
            | (go_at_call 24; (with_reducible refine (HLi.out _ HR1.out).mono ?_); rintro e w2 ⟨A2, c2, rfl, lb, mb, nb, hr2, hk2⟩; have HA2 := Lib.hid (fun i => (World.cell?_of_block (a := ⟨X, i, none⟩) (hk2.block X (hXl4 _ hXl1) (by simp; omega))).trans (HA1.out i)); have zf : ∀ i, w2.frozen? ⟨X, i, none⟩ = false := (fun i => (hk2.frozen (hXl4 _ hXl1) (by simp; omega)).trans (HFF.out i)); have z6 : w2.cell? ⟨X, 6, none⟩ = some (.slice none 0 0) := HA2.out 6; have z7 : w2.cell? ⟨X, 7, none⟩ = some (.slice none 0 0) := HA2.out 7; have z8 : w2.cell? ⟨X, 8, none⟩ = some (.bool false) := HA2.out 8; have zf6 := zf 6; have zf7 := zf 7; have zf8 := zf 8; have hXl2 := Nat.lt_of_lt_of_le (hXl4 _ hXl1) hk2.size; have HZf := Lib.hid zf; have HNb := Lib.hid nb; have HR2 := Lib.hid hr2; have HK2 := Lib.hid (HK1.out.trans hk2.two); have hs2w := Nat.le_trans HK1.out.size hk2.size; have HW2 := Lib.hid (show w.heap.size ≤ (w1.setCell ⟨X, 4, none⟩ (.int .i64 t)).heap.size from HK1.out.size); clear zf nb hr2 hk2)
            | (go_at_call 24; (with_reducible refine (HLj.out _ ((HR2.out.setOther hRX 6 (.slice A2 (len body) c2)).setOther hRX 8 (.bool true))).mono ?_); rintro e w3 ⟨v, rfl, ⟨sb, so, rfl, hs1, hs2⟩, hk3⟩; have HA2s := Lib.hid (arr_set (k := 8) (u := .bool true) (arr_set (k := 6) (u := .slice A2 (len body) c2) HA2.out (by simp)) (by simp)); have hXs : X < ((w2.setCell ⟨X, 6, none⟩ (.slice A2 (len body) c2)).setCell ⟨X, 8, none⟩ (.bool true)).heap.size := (by simpa [World.setCell] using hXl2); have HA3 := Lib.hid (fun i => (World.cell?_of_block (a := ⟨X, i, none⟩) (hk3.block X hXs (by simp; omega))).trans (HA2s.out i)); have q7 : w3.cell? ⟨X, 7, none⟩ = some (.slice none 0 0) := HA3.out 7; have qf7 : w3.frozen? ⟨X, 7, none⟩ = false := (hk3.frozen hXs (by simp; omega)).trans ((World.frozen?_setCell _ _ _ _).trans ((World.frozen?_setCell _ _ _ _).trans (HZf.out 7))); have hXl3 := Nat.lt_of_lt_of_le hXs hk3.size; have HK2s := Lib.hid ((HK2.out.setCell (p := ⟨X, 6, none⟩) (.inl (.inr rfl)) (.slice A2 (len body) c2)).setCell (p := ⟨X, 8, none⟩) (.inl (.inr rfl)) (.bool true)); have HK3 := Lib.hid (HK2s.out.trans hk3.two); have hsX : sb ≠ X := no_spotA HA3.out rfl hs2; have HS1 := Lib.hid hs1; have HS2 := Lib.hid hs2; clear hs1 hs2 hk3))
          go_ret
          exact ⟨_, ⟨⟨b, 0, 0, 0, t, [], body, .nil, true⟩, ⟨none, 0, A2, c2, none, 0⟩⟩, rfl, ⟨sb, so, rfl, cell_set_ne HS1.out hsX, cell_set_ne HS2.out hsX⟩, arr_set HA3.out (by simp), HK3.out.setCell (p := ⟨X, 7, none⟩) (.inl (.inr rfl)) _⟩
        | ok x =>
          obtain ⟨⟨els, last3, n3⟩, l3, p3⟩ := x
          obtain ⟨hrl3, -⟩ := finE_ok hf2
          have hgot3 := rdL_got _ _ _ _ _ _ _ _ _ _ hrl3 hn2 hd
          obtain ⟨rfl, -, -⟩ := Adv.dropped hgot3.adv hp2
          have HLj : Hid (∀ w', Rdr R w' A c bs p2 n2 → Calls Tryz.prog 24 #[.pointer (some ⟨R, 0, none⟩), .int .i64 depth, .bool false] w' (ListP R w' A c bs (.ok ((els, last3, n3), bs.drop p3, p3)))) := Lib.hid fun w' hr => by
            rw [← hf2]; exact HL.out R w' A c bs p2 n2 depth false hr hfu2 hd hn2
          unfold ListP at HLj
          clear hf2 hrl3 hgot3
          simp only
          unfold BlkP
          go_enter Tryz.func64, Tryz.ntmps64
          go_wp2_with (first
            | (go_at_call 86; (with_reducible refine HN.out.mono ?_); rintro e w1 ⟨rfl, hr1, hk1⟩; have f9 := (fun i => (World.cell?_of_block (a := ⟨X, i, none⟩) (hk1.block X hXl (by simp; omega))).trans (HX.out i)); have ff : ∀ i, w1.frozen? ⟨X, i, none⟩ = false := (fun i => (hk1.frozen hXl (by simp; omega)).trans (HF.out i)); have y0 : w1.cell? ⟨X, 0, none⟩ = some (.int .i64 b) := f9 0; have y4 : w1.cell? ⟨X, 4, none⟩ = some (.int .i64 0) := f9 4; have yf := ff 4; have hXl1 := Nat.lt_of_lt_of_le hXl hk1.size; have HR1 := Lib.hid (hr1.setOther hRX 4 (.int .i64 t)); have HA1 := Lib.hid (arr_set (k := 4) (u := .int .i64 t) f9 (by simp)); have HK1 := Lib.hid ((hk1.two (X := X)).setCell (p := ⟨X, 4, none⟩) (.inl (.inr rfl)) (.int .i64 t)); have HFF := Lib.hid (fun i => (World.frozen?_setCell w1 ⟨X, 4, none⟩ ⟨X, i, none⟩ (.int .i64 t)).trans (ff i)); clear hr1 hk1 f9 ff)
            | (go_at_call 24; (with_reducible refine (HLi.out _ HR1.out).mono ?_); rintro e w2 ⟨A2, c2, rfl, lb, mb, nb, hr2, hk2⟩; have HA2 := Lib.hid (fun i => (World.cell?_of_block (a := ⟨X, i, none⟩) (hk2.block X (hXl4 _ hXl1) (by simp; omega))).trans (HA1.out i)); have zf : ∀ i, w2.frozen? ⟨X, i, none⟩ = false := (fun i => (hk2.frozen (hXl4 _ hXl1) (by simp; omega)).trans (HFF.out i)); have z6 : w2.cell? ⟨X, 6, none⟩ = some (.slice none 0 0) := HA2.out 6; have z7 : w2.cell? ⟨X, 7, none⟩ = some (.slice none 0 0) := HA2.out 7; have z8 : w2.cell? ⟨X, 8, none⟩ = some (.bool false) := HA2.out 8; have zf6 := zf 6; have zf7 := zf 7; have zf8 := zf 8; have hXl2 := Nat.lt_of_lt_of_le (hXl4 _ hXl1) hk2.size; have HZf := Lib.hid zf; have HNb := Lib.hid nb; have HR2 := Lib.hid hr2; have HK2 := Lib.hid (HK1.out.trans hk2.two); have hs2w := Nat.le_trans HK1.out.size hk2.size; have HW2 := Lib.hid (show w.heap.size ≤ (w1.setCell ⟨X, 4, none⟩ (.int .i64 t)).heap.size from HK1.out.size); clear zf nb hr2 hk2)
            | (go_at_call 24; (with_reducible refine (HLj.out _ ((HR2.out.setOther hRX 6 (.slice A2 (len body) c2)).setOther hRX 8 (.bool true))).mono ?_); rintro e w3 ⟨A3, c3, rfl, le, me, ne, hr3, hk3⟩; have HA2s := Lib.hid (arr_set (k := 8) (u := .bool true) (arr_set (k := 6) (u := .slice A2 (len body) c2) HA2.out (by simp)) (by simp)); have hXs : X < ((w2.setCell ⟨X, 6, none⟩ (.slice A2 (len body) c2)).setCell ⟨X, 8, none⟩ (.bool true)).heap.size := (by simpa [World.setCell] using hXl2); have HA3 := Lib.hid (fun i => (World.cell?_of_block (a := ⟨X, i, none⟩) (hk3.block X hXs (by simp; omega))).trans (HA2s.out i)); have q7 : w3.cell? ⟨X, 7, none⟩ = some (.slice none 0 0) := HA3.out 7; have qf7 : w3.frozen? ⟨X, 7, none⟩ = false := (hk3.frozen hXs (by simp; omega)).trans ((World.frozen?_setCell _ _ _ _).trans ((World.frozen?_setCell _ _ _ _).trans (HZf.out 7))); have hXl3 := Nat.lt_of_lt_of_le hXs hk3.size; have HK2s := Lib.hid ((HK2.out.setCell (p := ⟨X, 6, none⟩) (.inl (.inr rfl)) (.slice A2 (len body) c2)).setCell (p := ⟨X, 8, none⟩) (.inl (.inr rfl)) (.bool true)); have HK3 := Lib.hid (HK2s.out.trans hk3.two); have HNe := Lib.hid ne; have HR3 := Lib.hid hr3; have HW3 := Lib.hid hk3.size; have HBk := Lib.hid hk3.block; clear ne hr3 hk3))
          go_ret
          refine ⟨⟨none, 0, A2, c2, A3, c3⟩, rfl, arr_set HA3.out (by simp), newN_blk hbI htI ?_ ?_ lb mb le me, HR3.out.setOther hRX 7 _, HK3.out.setCell (p := ⟨X, 7, none⟩) (.inl (.inr rfl)) _⟩
          · have hsz3 := HW3.out
            simp only [World.size_setCell] at hsz3
            refine HNb.out.move (agr_of_heap fun bl hb => ?_) (fun bl hb => ⟨Nat.le_trans HW2.out hb.1, by simp only [World.size_setCell]; exact Nat.lt_of_lt_of_le hb.2 hsz3⟩) (by simp only [World.size_setCell]; exact hsz3)
            have h1 : w.heap.size ≤ bl := Nat.le_trans HW2.out hb.1
            rw [Below.heap_setCell _ _ _ _ (by simp; omega), HBk.out bl (by simp only [World.size_setCell]; exact hb.2) (by have := HR2.out.lt; simp; omega), Below.heap_setCell _ _ _ _ (by simp; omega), Below.heap_setCell _ _ _ _ (by simp; omega)]
          · refine HNe.out.move (agr_of_heap fun bl hb => ?_) (fun bl hb => ⟨?_, by simp only [World.size_setCell]; exact hb.2⟩) (by simp only [World.size_setCell]; exact Nat.le_refl _)
            · have h1 := hb.1
              simp only [World.size_setCell] at h1
              rw [Below.heap_setCell _ _ _ _ (by simp; omega)]
            · have h1 := hb.1
              simp only [World.size_setCell] at h1
              omega
      · rw [if_neg (by decide)]
        clear hmay
        unfold BlkP
        go_enter Tryz.func64, Tryz.ntmps64
        go_wp2_with (first
          | (go_at_call 86; (with_reducible refine HN.out.mono ?_); rintro e w1 ⟨rfl, hr1, hk1⟩; have f9 := (fun i => (World.cell?_of_block (a := ⟨X, i, none⟩) (hk1.block X hXl (by simp; omega))).trans (HX.out i)); have ff : ∀ i, w1.frozen? ⟨X, i, none⟩ = false := (fun i => (hk1.frozen hXl (by simp; omega)).trans (HF.out i)); have y0 : w1.cell? ⟨X, 0, none⟩ = some (.int .i64 b) := f9 0; have y4 : w1.cell? ⟨X, 4, none⟩ = some (.int .i64 0) := f9 4; have yf := ff 4; have hXl1 := Nat.lt_of_lt_of_le hXl hk1.size; have HR1 := Lib.hid (hr1.setOther hRX 4 (.int .i64 t)); have HA1 := Lib.hid (arr_set (k := 4) (u := .int .i64 t) f9 (by simp)); have HK1 := Lib.hid ((hk1.two (X := X)).setCell (p := ⟨X, 4, none⟩) (.inl (.inr rfl)) (.int .i64 t)); have HFF := Lib.hid (fun i => (World.frozen?_setCell w1 ⟨X, 4, none⟩ ⟨X, i, none⟩ (.int .i64 t)).trans (ff i)); clear hr1 hk1 f9 ff)
          | (go_at_call 24; (with_reducible refine (HLi.out _ HR1.out).mono ?_); rintro e w2 ⟨A2, c2, rfl, lb, mb, nb, hr2, hk2⟩; have HA2 := Lib.hid (fun i => (World.cell?_of_block (a := ⟨X, i, none⟩) (hk2.block X (hXl4 _ hXl1) (by simp; omega))).trans (HA1.out i)); have zf : ∀ i, w2.frozen? ⟨X, i, none⟩ = false := (fun i => (hk2.frozen (hXl4 _ hXl1) (by simp; omega)).trans (HFF.out i)); have z6 : w2.cell? ⟨X, 6, none⟩ = some (.slice none 0 0) := HA2.out 6; have z7 : w2.cell? ⟨X, 7, none⟩ = some (.slice none 0 0) := HA2.out 7; have z8 : w2.cell? ⟨X, 8, none⟩ = some (.bool false) := HA2.out 8; have zf6 := zf 6; have zf7 := zf 7; have zf8 := zf 8; have hXl2 := Nat.lt_of_lt_of_le (hXl4 _ hXl1) hk2.size; have HZf := Lib.hid zf; have HNb := Lib.hid nb; have HR2 := Lib.hid hr2; have HK2 := Lib.hid (HK1.out.trans hk2.two); have hs2w := Nat.le_trans HK1.out.size hk2.size; have HW2 := Lib.hid (show w.heap.size ≤ (w1.setCell ⟨X, 4, none⟩ (.int .i64 t)).heap.size from HK1.out.size); clear zf nb hr2 hk2))
        go_ret
        refine ⟨⟨none, 0, A2, c2, none, 0⟩, rfl, arr_set HA2.out (by simp), newN_blk hbI htI ?_ NewF.none_ lb mb (Nat.le_refl _) (Nat.zero_le _), HR2.out.setOther hRX 6 _, HK2.out.setCell (p := ⟨X, 6, none⟩) (.inl (.inr rfl)) _⟩
        refine HNb.out.move (agr_of_heap fun bl hb => ?_) (fun bl hb => ⟨Nat.le_trans HW2.out hb.1, by simp only [World.size_setCell]; exact hb.2⟩) (by simp only [World.size_setCell]; exact Nat.le_refl _)
        have h1 : w.heap.size ≤ bl := Nat.le_trans HW2.out hb.1
        rw [Below.heap_setCell _ _ _ _ (by simp; omega)]
end
end Go.Proofs.YtbhniddgkdldlaaGreatDoor
