/- The reference's reader of layer 6: contract of List. -/
import Derived.Test.YtbhniddgkdldlaaGreatDoorExprRh
import Derived.Test.YtbhniddgkdldlaaGreatDoorExprGz
import Derived.Test.YtbhniddgkdldlaaGreatDoorOpN0
set_option linter.unusedVariables false
set_option linter.unusedSimpArgs false
namespace Go.Proofs.YtbhniddgkdldlaaGreatDoor.Trx
theorem step_q (f depth n : Nat) (b : UInt8) (l : List UInt8) (p : Nat) (pre : List Nd) (h11 : b ≠ 11) (h5 : b ≠ 5) :
    preN pre (rdL (f + 1) depth n (b :: l) p) = match rdO f depth n b.toNat l p with
      | .error er => .error er
      | .ok ((nd, n'), l', p') => preN (pre ++ [nd]) (rdL f depth n' l' p') := by
  rw [rdL_cons]
  unfold stepL rdO
  rw [if_neg (by simp [h11, h5])]
  by_cases hc : opChk depth n b.toNat ≠ 0
  · rw [if_pos hc, if_pos hc]; rfl
  · rw [if_neg hc, if_neg hc]
    rcases rdI f depth (n + 1) b.toNat l (p + 1) with e | ⟨⟨nd, n'⟩, l', p'⟩
    · rfl
    · simp only [preN_preN]
theorem opChk_eq (depth n : Nat) (b k : Int) (fl : Bool) (hk : k = knd b) (hf : fl = Opx.flt b) : opChk depth n b = if fl then 3 else if k = 0 then 2 else if 512 ≤ n ∨ (k = 2 ∧ 32 ≤ depth) then 7 else 0 := by
  subst hk hf; rfl
/-- so many instructions, whatever they are. -/
def anyF : Nat → Fo
  | 0 => .nil
  | n + 1 => .cons 0 0 0 0 0 [] .nil .nil false (anyF n)
theorem len_anyF (n : Nat) : len (anyF n) = n := by
  induction n with
  | zero => rfl
  | succ n ih =>
    unfold len at ih ⊢
    simp [anyF, nds, ih]
end Go.Proofs.YtbhniddgkdldlaaGreatDoor.Trx
namespace Go.Proofs.YtbhniddgkdldlaaGreatDoor
open Go.RowKit Trx
section
variable {R : Nat} {w wr : World} {A : Option Addr} {c : Nat} {bs : List UInt8} {p n : Nat} {s : Sx}
/-- how much is left. -/
def msR (R L : Nat) (w : World) : Nat := match w.cell? ⟨R, 3, none⟩ with
  | some (.int _ 0) => L - posOf R w + 1
  | _ => 0
theorem msR_ok (h : RfS R w A c bs (.ok (p, n))) (L : Nat) : msR R L w = L - p + 1 := by
  have h : Rf R w A c bs p n 0 0 := h
  have e : posOf R w = p := by unfold posOf; rw [h.c1]; simp
  unfold msR
  rw [h.c3, e]
  rfl
theorem msR_err {er : Nat × Nat} (h : RfS R w A c bs (.error er)) (L : Nat) : msR R L w = 0 := by
  obtain ⟨h0, p, n, h⟩ := h
  unfold msR
  rw [h.c3]
  split
  · rename_i hc
    simp at hc
    omega
  · rfl
theorem RfS.setN (h : RfS R w A c bs s) : ∀ m : Nat, RfS R (w.setCell ⟨R, 2, none⟩ (.int .i64 m)) A c bs (match s with | .error er => .error er | .ok (p, _) => .ok (p, m)) := fun m => by
  rcases s with er | ⟨p, n⟩
  · obtain ⟨h0, p, n, h⟩ := h; exact ⟨h0, p, m, h.setN m⟩
  · exact Rf.setN (h := h) m
theorem RfS.cnt (h : RfS R w A c bs s) : ∃ m : Nat, w.cell? ⟨R, 2, none⟩ = some (.int .i64 m) ∧ ∀ p n, s = .ok (p, n) → m = n := by
  rcases s with er | ⟨p, n⟩
  · obtain ⟨h0, p, n, h⟩ := h; exact ⟨n, h.c2, fun _ _ e => by cases e⟩
  · exact ⟨n, Rf.c2 (self := h), fun _ _ e => by cases e; rfl⟩
/-- what holds at the head of each round of List. -/
def LsR (R : Nat) (w : World) (A : Option Addr) (c : Nat) (bs : List UInt8) (r : Rs (Fo × Nat × Nat)) (fuel depth : Nat) (lv : Value) (wr : World) : Prop :=
  (∃ er, r = .error er ∧ RfS R wr A c bs (.error er) ∧ Kx (Only R) w wr) ∨
  ∃ (ins : List In) (pj nj fj : Nat), r = preN (ins.map (·.n)) (rdL fj depth nj (bs.drop pj) pj) ∧ bs.length - pj < fj ∧ fj ≤ fuel ∧ nj ≤ 512 ∧ ins.length ≤ nj ∧
    RfS R wr A c bs (.ok (pj, nj)) ∧ Kx (Only R) w wr ∧ OwnK w.heap.size wr wr 49 9 lv (ins.map In.cells) ∧ ∀ x ∈ ins, NewN (CpS w.heap.size wr lv) wr wr.heap.size x
end
end Go.Proofs.YtbhniddgkdldlaaGreatDoor

/- The reference's reader of layer 6: contract of List. -/
namespace Go.Proofs.YtbhniddgkdldlaaGreatDoor
open Go.RowKit Trx
theorem AmissF {R : Nat} {w : World} {A : Option Addr} {c : Nat} {bs : List UInt8} {p n bad whr : Nat} (k : Int) (m : Nat) (hk : (m : Int) = k) (h : Rf R w A c bs p n bad whr) (q : Nat) :
    Calls Tryz.prog 26 #[.pointer (some ⟨R, 0, none⟩), .int .i64 k, .int .i64 q] w fun e w' => e = .returned (.tuple #[]) ∧ Rf R w' A c bs p n (if bad = 0 then m else bad) (if bad = 0 then q else whr) ∧ Kx (Only R) w w' := by
  rw [← hk]
  by_cases hb : bad = 0
  · subst hb
    rw [if_pos rfl, if_pos rfl]
    exact Amiss_good h m q
  · rw [if_neg hb, if_neg hb]
    exact (Amiss_bad h hb m q).mono fun e w' ⟨he, hw⟩ => by subst hw; exact ⟨he, h, .refl_⟩
theorem Rf.setN1 {R : Nat} {w : World} {A : Option Addr} {c : Nat} {bs : List UInt8} {p bad whr m : Nat} (h : Rf R w A c bs p m bad whr) : Rf R (w.setCell ⟨R, 2, none⟩ (.int .i64 ((m : Int) + 1))) A c bs p (m + 1) bad whr := h.setN (m + 1)
set_option maxHeartbeats 16000000 in
set_option maxRecDepth 100000 in
theorem List_any : ∀ fuel, ListD fuel := by
  intro fuel
  induction fuel using Nat.strongRecOn with
  | ind fuel ih =>
    intro R w A c bs s depth h hs hd
    have HIH := Lib.hid ih
    have hRw := h.lt
    have HR := Lib.hid h
    obtain ⟨r, hr⟩ : ∃ r, r = onL fuel depth bs s := ⟨_, rfl⟩
    rw [← hr]
    obtain ⟨P, hP⟩ : ∃ P, P = ListQ R w A c bs r := ⟨_, rfl⟩
    rw [← hP]
    have HP := Lib.hid hP
    have HRr := Lib.hid hr
    have HS := Lib.hid hs
    have hdi : (depth : Int) ≤ 32 := by omega
    clear ih h hP hr hs
    go_enter Tryz.func25, Tryz.ntmps25
    go_wp2_with fail
    go_loopw [6] (fun lv wr => LsR R w A c bs r fuel depth lv wr) (fun _ wr => msR R bs.length wr)
    case atStart =>
      rcases s with er | ⟨p, n⟩
      · exact .inl ⟨er, HRr.out, HR.out, Kx.refl_⟩
      · exact .inr ⟨[], p, n, fuel, by rw [HRr.out, List.map_nil, preN_nil]; rfl, (HS.out p n rfl).1, Nat.le_refl _, (HS.out p n rfl).2, Nat.zero_le _, HR.out, Kx.refl_, OwnK.nil_ _ _ _ _ (Below.refl _ _) (Nat.le_refl _), by simp⟩
    case round =>
      clear HR HRr HS
      rcases hrel with ⟨er, hre, hrj, hkj⟩ | ⟨ins, pj, nj, fj, hrd, hfj, hfl, hnj, hil, hrj, hkj, hoj, hnew⟩
      · obtain ⟨kb, bc, tb0⟩ := hrj.bad
        have hRl := hrj.lt
        have HPe : Hid (P = ListQ R w A c bs (.error er)) := Lib.hid (by rw [HP.out, hre])
        have HRj := Lib.hid hrj
        have HKj := Lib.hid hkj
        clear hre hrj hkj HIH
        go_wp2_with fail
        rw [HPe.out]
        exact ⟨none, 0, .nil, 0, rfl, rfl, HRj.out, HKj.out⟩
      obtain ⟨f', rfl⟩ : ∃ f', fj = f' + 1 := ⟨fj - 1, by omega⟩
      have HMs := Lib.hid (msR_ok hrj bs.length)
      have hrj : Rf R wr A c bs pj nj 0 0 := hrj
      obtain ⟨A6, c6, hv, l6, m6, -⟩ := hoj.formB (by omega)
      rw [List.length_map] at hv l6
      subst hv
      have hxI0 := hrj.hp
      have pc := hrj.c1
      have nc := hrj.c2
      have bc : wr.cell? ⟨R, 3, none⟩ = some (.int .i64 0) := hrj.c3
      have fr2 := hrj.fr 2
      have hRl := hrj.lt
      have HRj := Lib.hid hrj
      have HKj := Lib.hid hkj
      have HOj := Lib.hid hoj
      have HNew := Lib.hid hnew
      have hszj := hkj.size
      cases hg : bs[pj]? with
      | none =>
        obtain ⟨rfl, hdr⟩ := at_end hg hrj.hp
        have HPe : Hid (P = ListQ R w A c bs (.error (2, bs.length))) := Lib.hid (by rw [HP.out, hrd, hdr]; rfl)
        have HBy := Lib.hid (Byte_end hrj)
        have hi : ins.length = len (anyF ins.length) := (len_anyF _).symm
        have HLn := Lib.hid hi
        clear hrj hkj hoj hnew hrd hg hdr HIH hi
        go_wp2_with (first | (go_at_call 41; (with_reducible refine HBy.out.mono ?_); rintro e w1 ⟨rfl, hr, hk⟩; clear pc nc bc fr2 hRl; have bc := hr.c3; have hRl := hr.lt; have HR1 := Lib.hid hr; have HK1 := Lib.hid (HKj.out.trans hk); clear hr hk))
        rw [HPe.out]
        exact ⟨A6, c6, anyF ins.length, -1, by rw [← HLn.out]; rfl, rfl, ⟨(show (2 : Nat) ≠ 0 by decide), _, _, HR1.out⟩, HK1.out⟩
      | some b =>
        have hplt : pj < bs.length := (List.getElem?_eq_some_iff.1 hg).1
        have hpm : (pj : Int) ≤ 9223372036854775806 := by have := hrj.hc; have := hrj.hm; unfold maxLen at this; omega
        have hdr := drop_at hg
        have HBy := Lib.hid (Byte_ok hrj b hg)
        rw [hdr] at hrd
        by_cases hend : b = 11 ∨ b = 5
        · have HPe : Hid (P = ListQ R w A c bs (.ok ((ofN (ins.map (·.n)), b.toNat, nj), bs.drop (pj + 1), pj + 1))) := Lib.hid (by
            rw [HP.out, hrd, rdL_cons]
            unfold stepL
            rw [if_pos hend]
            simp only [preN, nds, List.append_nil])
          clear hrj hkj hoj hnew hrd hg hdr HIH
          have fin : ∀ w1 : World, Rf R w1 A c bs (pj + 1) nj 0 0 → Kx (Only R) wr w1 → ∀ e, e = .returned (.tuple #[.slice A6 ins.length c6, .int .i64 b.toNat]) → P e w1 := fun w1 hr1 hk1 e he => by
            obtain ⟨A', c', hv, h1, h2, h3⟩ := made_list HOj.out HNew.out hk1 hRw
            rw [HPe.out]
            exact ⟨A', c', by rw [he, hv], h1, h2, h3, hr1, HKj.out.trans hk1⟩
          have FIN := Lib.hid fin
          clear fin
          rcases hend with rfl | rfl
          all_goals
            go_wp2_with (first | (go_at_call 41; (with_reducible refine HBy.out.mono ?_); rintro e w1 ⟨rfl, hr, hk⟩; clear pc nc bc fr2 hRl; have bc := hr.c3; have hRl := hr.lt; have HR1 := Lib.hid hr; have HK1 := Lib.hid hk; clear hr hk))
            exact FIN.out w1 HR1.out HK1.out _ rfl
        · have h11 : b ≠ 11 := fun e => hend (.inl e)
          have h5 : b ≠ 5 := fun e => hend (.inr e)
          rw [step_q f' depth nj b _ pj _ h11 h5] at hrd
          have t11 : ((b.toNat : Int) == 11) = false := u8_ne (k := 11) h11 rfl
          have t5 : ((b.toNat : Int) == 5) = false := u8_ne (k := 5) h5 rfl
          have hb256 : b.toNat < 256 := UInt8.toNat_lt b
          have hxI : inI (b.toNat : Int) := ⟨by omega, by omega⟩
          have hx0 : (0 : Int) ≤ b.toNat := by omega
          have hx1 : (b.toNat : Int) < 256 := by omega
          obtain ⟨x, hx⟩ : ∃ x : Int, x = b.toNat := ⟨_, rfl⟩
          rw [← hx] at HBy t11 t5 hxI hx0 hx1 hrd
          clear hrj hkj hoj hnew hg hdr h11 h5 hend hx hb256
          have HKd := Lib.hid (fun w => Kind_any x w)
          have HFl := Lib.hid (fun w => Float_any x w)
          obtain ⟨k, hk⟩ : ∃ k, k = knd x := ⟨_, rfl⟩
          obtain ⟨fl, hfl⟩ : ∃ fl, fl = Opx.flt x := ⟨_, rfl⟩
          rw [← hk] at HKd
          rw [← hfl] at HFl
          have hq := opChk_eq depth nj x k fl hk hfl
          have hdd0 : k = 2 → depth < 32 → knd x = 2 → depth < 32 := fun _ h _ => h
          clear hfl
          cases fl with
          | true =>
            by_cases h0 : k = 0
            · have u0 : (k == 0) = true := by simpa using h0
              have u2 : (k == 2) = false := by rw [h0]; rfl
              by_cases hn : 512 ≤ nj
              · have tn : decide (512 ≤ (nj : Int)) = true := by simp; omega
                have hc : opChk depth nj x = 3 := by rw [hq]; simp [h0, hn]
                have HRe : Hid (r = .error (3, pj)) := Lib.hid (by rw [hrd]; unfold rdO; rw [hc]; rfl)
                clear hrd hc hq
                go_wp2_with (first
                  | (go_at_call 41; (with_reducible refine HBy.out.mono ?_); rintro e w1 ⟨rfl, hr, hk⟩; clear nc bc fr2 hRl; have HRw1 : Hid (Rf R w1 A c bs (pj + 1) nj 0 0) := Lib.hid hr; have HKw1 := Lib.hid hk; have nc : w1.cell? ⟨R, 2, none⟩ = some (.int .i64 nj) := HRw1.out.c2; have bc := HRw1.out.c3; have fr2 := HRw1.out.fr 2; have hRl := HRw1.out.lt; clear hr hk)
                  | (go_at_call 34; (with_reducible refine (HKd.out _).mono ?_); rintro e w2 ⟨rfl, hb⟩; clear nc bc fr2 hRl; have HRw2 := Lib.hid (HRw1.out.later hb); have HKw2 := Lib.hid (HKw1.out.trans (.of_below hb)); have nc : w2.cell? ⟨R, 2, none⟩ = some (.int .i64 nj) := HRw2.out.c2; have bc := HRw2.out.c3; have fr2 := HRw2.out.fr 2; have hRl := HRw2.out.lt; clear hb)
                  | (go_at_call 42; (with_reducible refine (HFl.out _).mono ?_); rintro e w2_ ⟨rfl, rfl⟩)
                  | (go_at_call 26; (with_reducible refine (AmissF 3 3 rfl HRw2.out pj).mono ?_); rintro e w3 ⟨rfl, hr, hk⟩; clear nc bc fr2 hRl; have HRw3 : Hid (Rf R w3 A c bs (pj + 1) nj 3 pj) := Lib.hid hr; have HKw3 := Lib.hid (HKw2.out.trans hk); have nc : w3.cell? ⟨R, 2, none⟩ = some (.int .i64 nj) := HRw3.out.c2; have bc := HRw3.out.c3; have fr2 := HRw3.out.fr 2; have hRl := HRw3.out.lt; clear hr hk)
                  | (go_at_call 26; (with_reducible refine (AmissF 2 2 rfl HRw3.out pj).mono ?_); rintro e w4 ⟨rfl, hr, hk⟩; clear nc bc fr2 hRl; have HRw4 : Hid (Rf R w4 A c bs (pj + 1) nj 3 pj) := Lib.hid hr; have HKw4 := Lib.hid (HKw3.out.trans hk); have nc : w4.cell? ⟨R, 2, none⟩ = some (.int .i64 nj) := HRw4.out.c2; have bc := HRw4.out.c3; have fr2 := HRw4.out.fr 2; have hRl := HRw4.out.lt; clear hr hk)
                  | (go_at_call 26; (with_reducible refine (AmissF 7 7 rfl HRw4.out pj).mono ?_); rintro e w5 ⟨rfl, hr, hk⟩; clear nc bc fr2 hRl; have HRw5 : Hid (Rf R w5 A c bs (pj + 1) nj 3 pj) := Lib.hid hr; have HKw5 := Lib.hid (HKw4.out.trans hk); have nc : w5.cell? ⟨R, 2, none⟩ = some (.int .i64 nj) := HRw5.out.c2; have bc := HRw5.out.c3; have fr2 := HRw5.out.fr 2; have hRl := HRw5.out.lt; clear hr hk))
                go_roundw
                case rel =>
                  have hfin : LsR R w A c bs r fuel depth (.slice A6 ins.length c6) (w5.setCell ⟨R, 2, none⟩ (.int .i64 ((nj + 1 : Nat) : Int))) := .inl ⟨(3, pj), HRe.out, ⟨(show (3 : Nat) ≠ 0 by decide), _, _, HRw5.out.setN (nj + 1)⟩, (HKj.out.trans HKw5.out).setCell (p := ⟨R, 2, none⟩) (.inl rfl) _⟩
                  first | exact hfin | ((repeat apply Exists.intro); exact ⟨hfin, rfl⟩)
                case measure =>
                  rw [HMs.out]
                  exact Nat.lt_of_le_of_lt (Nat.le_of_eq (msR_err (er := (3, pj)) (bs := bs) (A := A) (c := c) ⟨(show (3 : Nat) ≠ 0 by decide), _, _, HRw5.out.setN (nj + 1)⟩ _)) (Nat.succ_pos _)
              · have tn : decide (512 ≤ (nj : Int)) = false := by simp; omega
                have hc : opChk depth nj x = 3 := by rw [hq]; simp [h0, hn]
                have HRe : Hid (r = .error (3, pj)) := Lib.hid (by rw [hrd]; unfold rdO; rw [hc]; rfl)
                clear hrd hc hq
                go_wp2_with (first
                  | (go_at_call 41; (with_reducible refine HBy.out.mono ?_); rintro e w1 ⟨rfl, hr, hk⟩; clear nc bc fr2 hRl; have HRw1 : Hid (Rf R w1 A c bs (pj + 1) nj 0 0) := Lib.hid hr; have HKw1 := Lib.hid hk; have nc : w1.cell? ⟨R, 2, none⟩ = some (.int .i64 nj) := HRw1.out.c2; have bc := HRw1.out.c3; have fr2 := HRw1.out.fr 2; have hRl := HRw1.out.lt; clear hr hk)
                  | (go_at_call 34; (with_reducible refine (HKd.out _).mono ?_); rintro e w2 ⟨rfl, hb⟩; clear nc bc fr2 hRl; have HRw2 := Lib.hid (HRw1.out.later hb); have HKw2 := Lib.hid (HKw1.out.trans (.of_below hb)); have nc : w2.cell? ⟨R, 2, none⟩ = some (.int .i64 nj) := HRw2.out.c2; have bc := HRw2.out.c3; have fr2 := HRw2.out.fr 2; have hRl := HRw2.out.lt; clear hb)
                  | (go_at_call 42; (with_reducible refine (HFl.out _).mono ?_); rintro e w2_ ⟨rfl, rfl⟩)
                  | (go_at_call 26; (with_reducible refine (AmissF 3 3 rfl HRw2.out pj).mono ?_); rintro e w3 ⟨rfl, hr, hk⟩; clear nc bc fr2 hRl; have HRw3 : Hid (Rf R w3 A c bs (pj + 1) nj 3 pj) := Lib.hid hr; have HKw3 := Lib.hid (HKw2.out.trans hk); have nc : w3.cell? ⟨R, 2, none⟩ = some (.int .i64 nj) := HRw3.out.c2; have bc := HRw3.out.c3; have fr2 := HRw3.out.fr 2; have hRl := HRw3.out.lt; clear hr hk)
                  | (go_at_call 26; (with_reducible refine (AmissF 2 2 rfl HRw3.out pj).mono ?_); rintro e w4 ⟨rfl, hr, hk⟩; clear nc bc fr2 hRl; have HRw4 : Hid (Rf R w4 A c bs (pj + 1) nj 3 pj) := Lib.hid hr; have HKw4 := Lib.hid (HKw3.out.trans hk); have nc : w4.cell? ⟨R, 2, none⟩ = some (.int .i64 nj) := HRw4.out.c2; have bc := HRw4.out.c3; have fr2 := HRw4.out.fr 2; have hRl := HRw4.out.lt; clear hr hk))
                go_roundw
                case rel =>
                  have hfin : LsR R w A c bs r fuel depth (.slice A6 ins.length c6) (w4.setCell ⟨R, 2, none⟩ (.int .i64 ((nj + 1 : Nat) : Int))) := .inl ⟨(3, pj), HRe.out, ⟨(show (3 : Nat) ≠ 0 by decide), _, _, HRw4.out.setN (nj + 1)⟩, (HKj.out.trans HKw4.out).setCell (p := ⟨R, 2, none⟩) (.inl rfl) _⟩
                  first | exact hfin | ((repeat apply Exists.intro); exact ⟨hfin, rfl⟩)
                case measure =>
                  rw [HMs.out]
                  exact Nat.lt_of_le_of_lt (Nat.le_of_eq (msR_err (er := (3, pj)) (bs := bs) (A := A) (c := c) ⟨(show (3 : Nat) ≠ 0 by decide), _, _, HRw4.out.setN (nj + 1)⟩ _)) (Nat.succ_pos _)
            · have u0 : (k == 0) = false := by simpa using h0
              by_cases hn : 512 ≤ nj
              · have tn : decide (512 ≤ (nj : Int)) = true := by simp; omega
                have hc : opChk depth nj x = 3 := by rw [hq]; simp [h0, hn]
                have HRe : Hid (r = .error (3, pj)) := Lib.hid (by rw [hrd]; unfold rdO; rw [hc]; rfl)
                clear hrd hc hq
                go_wp2_with (first
                  | (go_at_call 41; (with_reducible refine HBy.out.mono ?_); rintro e w1 ⟨rfl, hr, hk⟩; clear nc bc fr2 hRl; have HRw1 : Hid (Rf R w1 A c bs (pj + 1) nj 0 0) := Lib.hid hr; have HKw1 := Lib.hid hk; have nc : w1.cell? ⟨R, 2, none⟩ = some (.int .i64 nj) := HRw1.out.c2; have bc := HRw1.out.c3; have fr2 := HRw1.out.fr 2; have hRl := HRw1.out.lt; clear hr hk)
                  | (go_at_call 34; (with_reducible refine (HKd.out _).mono ?_); rintro e w2 ⟨rfl, hb⟩; clear nc bc fr2 hRl; have HRw2 := Lib.hid (HRw1.out.later hb); have HKw2 := Lib.hid (HKw1.out.trans (.of_below hb)); have nc : w2.cell? ⟨R, 2, none⟩ = some (.int .i64 nj) := HRw2.out.c2; have bc := HRw2.out.c3; have fr2 := HRw2.out.fr 2; have hRl := HRw2.out.lt; clear hb)
                  | (go_at_call 42; (with_reducible refine (HFl.out _).mono ?_); rintro e w2_ ⟨rfl, rfl⟩)
                  | (go_at_call 26; (with_reducible refine (AmissF 3 3 rfl HRw2.out pj).mono ?_); rintro e w3 ⟨rfl, hr, hk⟩; clear nc bc fr2 hRl; have HRw3 : Hid (Rf R w3 A c bs (pj + 1) nj 3 pj) := Lib.hid hr; have HKw3 := Lib.hid (HKw2.out.trans hk); have nc : w3.cell? ⟨R, 2, none⟩ = some (.int .i64 nj) := HRw3.out.c2; have bc := HRw3.out.c3; have fr2 := HRw3.out.fr 2; have hRl := HRw3.out.lt; clear hr hk)
                  | (go_at_call 26; (with_reducible refine (AmissF 7 7 rfl HRw3.out pj).mono ?_); rintro e w4 ⟨rfl, hr, hk⟩; clear nc bc fr2 hRl; have HRw4 : Hid (Rf R w4 A c bs (pj + 1) nj 3 pj) := Lib.hid hr; have HKw4 := Lib.hid (HKw3.out.trans hk); have nc : w4.cell? ⟨R, 2, none⟩ = some (.int .i64 nj) := HRw4.out.c2; have bc := HRw4.out.c3; have fr2 := HRw4.out.fr 2; have hRl := HRw4.out.lt; clear hr hk))
                go_roundw
                case rel =>
                  have hfin : LsR R w A c bs r fuel depth (.slice A6 ins.length c6) (w4.setCell ⟨R, 2, none⟩ (.int .i64 ((nj + 1 : Nat) : Int))) := .inl ⟨(3, pj), HRe.out, ⟨(show (3 : Nat) ≠ 0 by decide), _, _, HRw4.out.setN (nj + 1)⟩, (HKj.out.trans HKw4.out).setCell (p := ⟨R, 2, none⟩) (.inl rfl) _⟩
                  first | exact hfin | ((repeat apply Exists.intro); exact ⟨hfin, rfl⟩)
                case measure =>
                  rw [HMs.out]
                  exact Nat.lt_of_le_of_lt (Nat.le_of_eq (msR_err (er := (3, pj)) (bs := bs) (A := A) (c := c) ⟨(show (3 : Nat) ≠ 0 by decide), _, _, HRw4.out.setN (nj + 1)⟩ _)) (Nat.succ_pos _)
              · have tn : decide (512 ≤ (nj : Int)) = false := by simp; omega
                by_cases h2 : k = 2
                · have u2 : (k == 2) = true := by simpa using h2
                  by_cases hd3 : 32 ≤ depth
                  · have td : decide (32 ≤ (depth : Int)) = true := by simp; omega
                    have hc : opChk depth nj x = 3 := by rw [hq]; simp [h0, hn, h2, hd3]
                    have HRe : Hid (r = .error (3, pj)) := Lib.hid (by rw [hrd]; unfold rdO; rw [hc]; rfl)
                    clear hrd hc hq
                    go_wp2_with (first
                      | (go_at_call 41; (with_reducible refine HBy.out.mono ?_); rintro e w1 ⟨rfl, hr, hk⟩; clear nc bc fr2 hRl; have HRw1 : Hid (Rf R w1 A c bs (pj + 1) nj 0 0) := Lib.hid hr; have HKw1 := Lib.hid hk; have nc : w1.cell? ⟨R, 2, none⟩ = some (.int .i64 nj) := HRw1.out.c2; have bc := HRw1.out.c3; have fr2 := HRw1.out.fr 2; have hRl := HRw1.out.lt; clear hr hk)
                      | (go_at_call 34; (with_reducible refine (HKd.out _).mono ?_); rintro e w2 ⟨rfl, hb⟩; clear nc bc fr2 hRl; have HRw2 := Lib.hid (HRw1.out.later hb); have HKw2 := Lib.hid (HKw1.out.trans (.of_below hb)); have nc : w2.cell? ⟨R, 2, none⟩ = some (.int .i64 nj) := HRw2.out.c2; have bc := HRw2.out.c3; have fr2 := HRw2.out.fr 2; have hRl := HRw2.out.lt; clear hb)
                      | (go_at_call 42; (with_reducible refine (HFl.out _).mono ?_); rintro e w2_ ⟨rfl, rfl⟩)
                      | (go_at_call 26; (with_reducible refine (AmissF 3 3 rfl HRw2.out pj).mono ?_); rintro e w3 ⟨rfl, hr, hk⟩; clear nc bc fr2 hRl; have HRw3 : Hid (Rf R w3 A c bs (pj + 1) nj 3 pj) := Lib.hid hr; have HKw3 := Lib.hid (HKw2.out.trans hk); have nc : w3.cell? ⟨R, 2, none⟩ = some (.int .i64 nj) := HRw3.out.c2; have bc := HRw3.out.c3; have fr2 := HRw3.out.fr 2; have hRl := HRw3.out.lt; clear hr hk)
                      | (go_at_call 26; (with_reducible refine (AmissF 7 7 rfl HRw3.out pj).mono ?_); rintro e w4 ⟨rfl, hr, hk⟩; clear nc bc fr2 hRl; have HRw4 : Hid (Rf R w4 A c bs (pj + 1) nj 3 pj) := Lib.hid hr; have HKw4 := Lib.hid (HKw3.out.trans hk); have nc : w4.cell? ⟨R, 2, none⟩ = some (.int .i64 nj) := HRw4.out.c2; have bc := HRw4.out.c3; have fr2 := HRw4.out.fr 2; have hRl := HRw4.out.lt; clear hr hk))
                    go_roundw
                    case rel =>
                      have hfin : LsR R w A c bs r fuel depth (.slice A6 ins.length c6) (w4.setCell ⟨R, 2, none⟩ (.int .i64 ((nj + 1 : Nat) : Int))) := .inl ⟨(3, pj), HRe.out, ⟨(show (3 : Nat) ≠ 0 by decide), _, _, HRw4.out.setN (nj + 1)⟩, (HKj.out.trans HKw4.out).setCell (p := ⟨R, 2, none⟩) (.inl rfl) _⟩
                      first | exact hfin | ((repeat apply Exists.intro); exact ⟨hfin, rfl⟩)
                    case measure =>
                      rw [HMs.out]
                      exact Nat.lt_of_le_of_lt (Nat.le_of_eq (msR_err (er := (3, pj)) (bs := bs) (A := A) (c := c) ⟨(show (3 : Nat) ≠ 0 by decide), _, _, HRw4.out.setN (nj + 1)⟩ _)) (Nat.succ_pos _)
                  · have td : decide (32 ≤ (depth : Int)) = false := by simp; omega
                    have hc : opChk depth nj x = 3 := by rw [hq]; simp [h0, hn, h2, hd3]
                    have HRe : Hid (r = .error (3, pj)) := Lib.hid (by rw [hrd]; unfold rdO; rw [hc]; rfl)
                    clear hrd hc hq
                    go_wp2_with (first
                      | (go_at_call 41; (with_reducible refine HBy.out.mono ?_); rintro e w1 ⟨rfl, hr, hk⟩; clear nc bc fr2 hRl; have HRw1 : Hid (Rf R w1 A c bs (pj + 1) nj 0 0) := Lib.hid hr; have HKw1 := Lib.hid hk; have nc : w1.cell? ⟨R, 2, none⟩ = some (.int .i64 nj) := HRw1.out.c2; have bc := HRw1.out.c3; have fr2 := HRw1.out.fr 2; have hRl := HRw1.out.lt; clear hr hk)
                      | (go_at_call 34; (with_reducible refine (HKd.out _).mono ?_); rintro e w2 ⟨rfl, hb⟩; clear nc bc fr2 hRl; have HRw2 := Lib.hid (HRw1.out.later hb); have HKw2 := Lib.hid (HKw1.out.trans (.of_below hb)); have nc : w2.cell? ⟨R, 2, none⟩ = some (.int .i64 nj) := HRw2.out.c2; have bc := HRw2.out.c3; have fr2 := HRw2.out.fr 2; have hRl := HRw2.out.lt; clear hb)
                      | (go_at_call 42; (with_reducible refine (HFl.out _).mono ?_); rintro e w2_ ⟨rfl, rfl⟩)
                      | (go_at_call 26; (with_reducible refine (AmissF 3 3 rfl HRw2.out pj).mono ?_); rintro e w3 ⟨rfl, hr, hk⟩; clear nc bc fr2 hRl; have HRw3 : Hid (Rf R w3 A c bs (pj + 1) nj 3 pj) := Lib.hid hr; have HKw3 := Lib.hid (HKw2.out.trans hk); have nc : w3.cell? ⟨R, 2, none⟩ = some (.int .i64 nj) := HRw3.out.c2; have bc := HRw3.out.c3; have fr2 := HRw3.out.fr 2; have hRl := HRw3.out.lt; clear hr hk))
                    go_roundw
                    case rel =>
                      have hfin : LsR R w A c bs r fuel depth (.slice A6 ins.length c6) (w3.setCell ⟨R, 2, none⟩ (.int .i64 ((nj + 1 : Nat) : Int))) := .inl ⟨(3, pj), HRe.out, ⟨(show (3 : Nat) ≠ 0 by decide), _, _, HRw3.out.setN (nj + 1)⟩, (HKj.out.trans HKw3.out).setCell (p := ⟨R, 2, none⟩) (.inl rfl) _⟩
                      first | exact hfin | ((repeat apply Exists.intro); exact ⟨hfin, rfl⟩)
                    case measure =>
                      rw [HMs.out]
                      exact Nat.lt_of_le_of_lt (Nat.le_of_eq (msR_err (er := (3, pj)) (bs := bs) (A := A) (c := c) ⟨(show (3 : Nat) ≠ 0 by decide), _, _, HRw3.out.setN (nj + 1)⟩ _)) (Nat.succ_pos _)
                · have u2 : (k == 2) = false := by simpa using h2
                  have hc : opChk depth nj x = 3 := by rw [hq]; simp [h0, hn, h2]
                  have HRe : Hid (r = .error (3, pj)) := Lib.hid (by rw [hrd]; unfold rdO; rw [hc]; rfl)
                  clear hrd hc hq
                  go_wp2_with (first
                    | (go_at_call 41; (with_reducible refine HBy.out.mono ?_); rintro e w1 ⟨rfl, hr, hk⟩; clear nc bc fr2 hRl; have HRw1 : Hid (Rf R w1 A c bs (pj + 1) nj 0 0) := Lib.hid hr; have HKw1 := Lib.hid hk; have nc : w1.cell? ⟨R, 2, none⟩ = some (.int .i64 nj) := HRw1.out.c2; have bc := HRw1.out.c3; have fr2 := HRw1.out.fr 2; have hRl := HRw1.out.lt; clear hr hk)
                    | (go_at_call 34; (with_reducible refine (HKd.out _).mono ?_); rintro e w2 ⟨rfl, hb⟩; clear nc bc fr2 hRl; have HRw2 := Lib.hid (HRw1.out.later hb); have HKw2 := Lib.hid (HKw1.out.trans (.of_below hb)); have nc : w2.cell? ⟨R, 2, none⟩ = some (.int .i64 nj) := HRw2.out.c2; have bc := HRw2.out.c3; have fr2 := HRw2.out.fr 2; have hRl := HRw2.out.lt; clear hb)
                    | (go_at_call 42; (with_reducible refine (HFl.out _).mono ?_); rintro e w2_ ⟨rfl, rfl⟩)
                    | (go_at_call 26; (with_reducible refine (AmissF 3 3 rfl HRw2.out pj).mono ?_); rintro e w3 ⟨rfl, hr, hk⟩; clear nc bc fr2 hRl; have HRw3 : Hid (Rf R w3 A c bs (pj + 1) nj 3 pj) := Lib.hid hr; have HKw3 := Lib.hid (HKw2.out.trans hk); have nc : w3.cell? ⟨R, 2, none⟩ = some (.int .i64 nj) := HRw3.out.c2; have bc := HRw3.out.c3; have fr2 := HRw3.out.fr 2; have hRl := HRw3.out.lt; clear hr hk))
                  go_roundw
                  case rel =>
                    have hfin : LsR R w A c bs r fuel depth (.slice A6 ins.length c6) (w3.setCell ⟨R, 2, none⟩ (.int .i64 ((nj + 1 : Nat) : Int))) := .inl ⟨(3, pj), HRe.out, ⟨(show (3 : Nat) ≠ 0 by decide), _, _, HRw3.out.setN (nj + 1)⟩, (HKj.out.trans HKw3.out).setCell (p := ⟨R, 2, none⟩) (.inl rfl) _⟩
                    first | exact hfin | ((repeat apply Exists.intro); exact ⟨hfin, rfl⟩)
                  case measure =>
                    rw [HMs.out]
                    exact Nat.lt_of_le_of_lt (Nat.le_of_eq (msR_err (er := (3, pj)) (bs := bs) (A := A) (c := c) ⟨(show (3 : Nat) ≠ 0 by decide), _, _, HRw3.out.setN (nj + 1)⟩ _)) (Nat.succ_pos _)
          | false =>
            by_cases h0 : k = 0
            · have u0 : (k == 0) = true := by simpa using h0
              have u2 : (k == 2) = false := by rw [h0]; rfl
              by_cases hn : 512 ≤ nj
              · have tn : decide (512 ≤ (nj : Int)) = true := by simp; omega
                have hc : opChk depth nj x = 2 := by rw [hq]; simp [h0, hn]
                have HRe : Hid (r = .error (2, pj)) := Lib.hid (by rw [hrd]; unfold rdO; rw [hc]; rfl)
                clear hrd hc hq
                go_wp2_with (first
                  | (go_at_call 41; (with_reducible refine HBy.out.mono ?_); rintro e w1 ⟨rfl, hr, hk⟩; clear nc bc fr2 hRl; have HRw1 : Hid (Rf R w1 A c bs (pj + 1) nj 0 0) := Lib.hid hr; have HKw1 := Lib.hid hk; have nc : w1.cell? ⟨R, 2, none⟩ = some (.int .i64 nj) := HRw1.out.c2; have bc := HRw1.out.c3; have fr2 := HRw1.out.fr 2; have hRl := HRw1.out.lt; clear hr hk)
                  | (go_at_call 34; (with_reducible refine (HKd.out _).mono ?_); rintro e w2 ⟨rfl, hb⟩; clear nc bc fr2 hRl; have HRw2 := Lib.hid (HRw1.out.later hb); have HKw2 := Lib.hid (HKw1.out.trans (.of_below hb)); have nc : w2.cell? ⟨R, 2, none⟩ = some (.int .i64 nj) := HRw2.out.c2; have bc := HRw2.out.c3; have fr2 := HRw2.out.fr 2; have hRl := HRw2.out.lt; clear hb)
                  | (go_at_call 42; (with_reducible refine (HFl.out _).mono ?_); rintro e w2_ ⟨rfl, rfl⟩)
                  | (go_at_call 26; (with_reducible refine (AmissF 2 2 rfl HRw2.out pj).mono ?_); rintro e w3 ⟨rfl, hr, hk⟩; clear nc bc fr2 hRl; have HRw3 : Hid (Rf R w3 A c bs (pj + 1) nj 2 pj) := Lib.hid hr; have HKw3 := Lib.hid (HKw2.out.trans hk); have nc : w3.cell? ⟨R, 2, none⟩ = some (.int .i64 nj) := HRw3.out.c2; have bc := HRw3.out.c3; have fr2 := HRw3.out.fr 2; have hRl := HRw3.out.lt; clear hr hk)
                  | (go_at_call 26; (with_reducible refine (AmissF 7 7 rfl HRw3.out pj).mono ?_); rintro e w4 ⟨rfl, hr, hk⟩; clear nc bc fr2 hRl; have HRw4 : Hid (Rf R w4 A c bs (pj + 1) nj 2 pj) := Lib.hid hr; have HKw4 := Lib.hid (HKw3.out.trans hk); have nc : w4.cell? ⟨R, 2, none⟩ = some (.int .i64 nj) := HRw4.out.c2; have bc := HRw4.out.c3; have fr2 := HRw4.out.fr 2; have hRl := HRw4.out.lt; clear hr hk))
                go_roundw
                case rel =>
                  have hfin : LsR R w A c bs r fuel depth (.slice A6 ins.length c6) (w4.setCell ⟨R, 2, none⟩ (.int .i64 ((nj + 1 : Nat) : Int))) := .inl ⟨(2, pj), HRe.out, ⟨(show (2 : Nat) ≠ 0 by decide), _, _, HRw4.out.setN (nj + 1)⟩, (HKj.out.trans HKw4.out).setCell (p := ⟨R, 2, none⟩) (.inl rfl) _⟩
                  first | exact hfin | ((repeat apply Exists.intro); exact ⟨hfin, rfl⟩)
                case measure =>
                  rw [HMs.out]
                  exact Nat.lt_of_le_of_lt (Nat.le_of_eq (msR_err (er := (2, pj)) (bs := bs) (A := A) (c := c) ⟨(show (2 : Nat) ≠ 0 by decide), _, _, HRw4.out.setN (nj + 1)⟩ _)) (Nat.succ_pos _)
              · have tn : decide (512 ≤ (nj : Int)) = false := by simp; omega
                have hc : opChk depth nj x = 2 := by rw [hq]; simp [h0, hn]
                have HRe : Hid (r = .error (2, pj)) := Lib.hid (by rw [hrd]; unfold rdO; rw [hc]; rfl)
                clear hrd hc hq
                go_wp2_with (first
                  | (go_at_call 41; (with_reducible refine HBy.out.mono ?_); rintro e w1 ⟨rfl, hr, hk⟩; clear nc bc fr2 hRl; have HRw1 : Hid (Rf R w1 A c bs (pj + 1) nj 0 0) := Lib.hid hr; have HKw1 := Lib.hid hk; have nc : w1.cell? ⟨R, 2, none⟩ = some (.int .i64 nj) := HRw1.out.c2; have bc := HRw1.out.c3; have fr2 := HRw1.out.fr 2; have hRl := HRw1.out.lt; clear hr hk)
                  | (go_at_call 34; (with_reducible refine (HKd.out _).mono ?_); rintro e w2 ⟨rfl, hb⟩; clear nc bc fr2 hRl; have HRw2 := Lib.hid (HRw1.out.later hb); have HKw2 := Lib.hid (HKw1.out.trans (.of_below hb)); have nc : w2.cell? ⟨R, 2, none⟩ = some (.int .i64 nj) := HRw2.out.c2; have bc := HRw2.out.c3; have fr2 := HRw2.out.fr 2; have hRl := HRw2.out.lt; clear hb)
                  | (go_at_call 42; (with_reducible refine (HFl.out _).mono ?_); rintro e w2_ ⟨rfl, rfl⟩)
                  | (go_at_call 26; (with_reducible refine (AmissF 2 2 rfl HRw2.out pj).mono ?_); rintro e w3 ⟨rfl, hr, hk⟩; clear nc bc fr2 hRl; have HRw3 : Hid (Rf R w3 A c bs (pj + 1) nj 2 pj) := Lib.hid hr; have HKw3 := Lib.hid (HKw2.out.trans hk); have nc : w3.cell? ⟨R, 2, none⟩ = some (.int .i64 nj) := HRw3.out.c2; have bc := HRw3.out.c3; have fr2 := HRw3.out.fr 2; have hRl := HRw3.out.lt; clear hr hk))
                go_roundw
                case rel =>
                  have hfin : LsR R w A c bs r fuel depth (.slice A6 ins.length c6) (w3.setCell ⟨R, 2, none⟩ (.int .i64 ((nj + 1 : Nat) : Int))) := .inl ⟨(2, pj), HRe.out, ⟨(show (2 : Nat) ≠ 0 by decide), _, _, HRw3.out.setN (nj + 1)⟩, (HKj.out.trans HKw3.out).setCell (p := ⟨R, 2, none⟩) (.inl rfl) _⟩
                  first | exact hfin | ((repeat apply Exists.intro); exact ⟨hfin, rfl⟩)
                case measure =>
                  rw [HMs.out]
                  exact Nat.lt_of_le_of_lt (Nat.le_of_eq (msR_err (er := (2, pj)) (bs := bs) (A := A) (c := c) ⟨(show (2 : Nat) ≠ 0 by decide), _, _, HRw3.out.setN (nj + 1)⟩ _)) (Nat.succ_pos _)
            · have u0 : (k == 0) = false := by simpa using h0
              by_cases hn : 512 ≤ nj
              · have tn : decide (512 ≤ (nj : Int)) = true := by simp; omega
                have hc : opChk depth nj x = 7 := by rw [hq]; simp [h0, hn]
                have HRe : Hid (r = .error (7, pj)) := Lib.hid (by rw [hrd]; unfold rdO; rw [hc]; rfl)
                clear hrd hc hq
                go_wp2_with (first
                  | (go_at_call 41; (with_reducible refine HBy.out.mono ?_); rintro e w1 ⟨rfl, hr, hk⟩; clear nc bc fr2 hRl; have HRw1 : Hid (Rf R w1 A c bs (pj + 1) nj 0 0) := Lib.hid hr; have HKw1 := Lib.hid hk; have nc : w1.cell? ⟨R, 2, none⟩ = some (.int .i64 nj) := HRw1.out.c2; have bc := HRw1.out.c3; have fr2 := HRw1.out.fr 2; have hRl := HRw1.out.lt; clear hr hk)
                  | (go_at_call 34; (with_reducible refine (HKd.out _).mono ?_); rintro e w2 ⟨rfl, hb⟩; clear nc bc fr2 hRl; have HRw2 := Lib.hid (HRw1.out.later hb); have HKw2 := Lib.hid (HKw1.out.trans (.of_below hb)); have nc : w2.cell? ⟨R, 2, none⟩ = some (.int .i64 nj) := HRw2.out.c2; have bc := HRw2.out.c3; have fr2 := HRw2.out.fr 2; have hRl := HRw2.out.lt; clear hb)
                  | (go_at_call 42; (with_reducible refine (HFl.out _).mono ?_); rintro e w2_ ⟨rfl, rfl⟩)
                  | (go_at_call 26; (with_reducible refine (AmissF 7 7 rfl HRw2.out pj).mono ?_); rintro e w3 ⟨rfl, hr, hk⟩; clear nc bc fr2 hRl; have HRw3 : Hid (Rf R w3 A c bs (pj + 1) nj 7 pj) := Lib.hid hr; have HKw3 := Lib.hid (HKw2.out.trans hk); have nc : w3.cell? ⟨R, 2, none⟩ = some (.int .i64 nj) := HRw3.out.c2; have bc := HRw3.out.c3; have fr2 := HRw3.out.fr 2; have hRl := HRw3.out.lt; clear hr hk))
                go_roundw
                case rel =>
                  have hfin : LsR R w A c bs r fuel depth (.slice A6 ins.length c6) (w3.setCell ⟨R, 2, none⟩ (.int .i64 ((nj + 1 : Nat) : Int))) := .inl ⟨(7, pj), HRe.out, ⟨(show (7 : Nat) ≠ 0 by decide), _, _, HRw3.out.setN (nj + 1)⟩, (HKj.out.trans HKw3.out).setCell (p := ⟨R, 2, none⟩) (.inl rfl) _⟩
                  first | exact hfin | ((repeat apply Exists.intro); exact ⟨hfin, rfl⟩)
                case measure =>
                  rw [HMs.out]
                  exact Nat.lt_of_le_of_lt (Nat.le_of_eq (msR_err (er := (7, pj)) (bs := bs) (A := A) (c := c) ⟨(show (7 : Nat) ≠ 0 by decide), _, _, HRw3.out.setN (nj + 1)⟩ _)) (Nat.succ_pos _)
              · have tn : decide (512 ≤ (nj : Int)) = false := by simp; omega
                by_cases h2 : k = 2
                · have u2 : (k == 2) = true := by simpa using h2
                  by_cases hd3 : 32 ≤ depth
                  · have td : decide (32 ≤ (depth : Int)) = true := by simp; omega
                    have hc : opChk depth nj x = 7 := by rw [hq]; simp [h0, hn, h2, hd3]
                    have HRe : Hid (r = .error (7, pj)) := Lib.hid (by rw [hrd]; unfold rdO; rw [hc]; rfl)
                    clear hrd hc hq
                    go_wp2_with (first
                      | (go_at_call 41; (with_reducible refine HBy.out.mono ?_); rintro e w1 ⟨rfl, hr, hk⟩; clear nc bc fr2 hRl; have HRw1 : Hid (Rf R w1 A c bs (pj + 1) nj 0 0) := Lib.hid hr; have HKw1 := Lib.hid hk; have nc : w1.cell? ⟨R, 2, none⟩ = some (.int .i64 nj) := HRw1.out.c2; have bc := HRw1.out.c3; have fr2 := HRw1.out.fr 2; have hRl := HRw1.out.lt; clear hr hk)
                      | (go_at_call 34; (with_reducible refine (HKd.out _).mono ?_); rintro e w2 ⟨rfl, hb⟩; clear nc bc fr2 hRl; have HRw2 := Lib.hid (HRw1.out.later hb); have HKw2 := Lib.hid (HKw1.out.trans (.of_below hb)); have nc : w2.cell? ⟨R, 2, none⟩ = some (.int .i64 nj) := HRw2.out.c2; have bc := HRw2.out.c3; have fr2 := HRw2.out.fr 2; have hRl := HRw2.out.lt; clear hb)
                      | (go_at_call 42; (with_reducible refine (HFl.out _).mono ?_); rintro e w2_ ⟨rfl, rfl⟩)
                      | (go_at_call 26; (with_reducible refine (AmissF 7 7 rfl HRw2.out pj).mono ?_); rintro e w3 ⟨rfl, hr, hk⟩; clear nc bc fr2 hRl; have HRw3 : Hid (Rf R w3 A c bs (pj + 1) nj 7 pj) := Lib.hid hr; have HKw3 := Lib.hid (HKw2.out.trans hk); have nc : w3.cell? ⟨R, 2, none⟩ = some (.int .i64 nj) := HRw3.out.c2; have bc := HRw3.out.c3; have fr2 := HRw3.out.fr 2; have hRl := HRw3.out.lt; clear hr hk))
                    go_roundw
                    case rel =>
                      have hfin : LsR R w A c bs r fuel depth (.slice A6 ins.length c6) (w3.setCell ⟨R, 2, none⟩ (.int .i64 ((nj + 1 : Nat) : Int))) := .inl ⟨(7, pj), HRe.out, ⟨(show (7 : Nat) ≠ 0 by decide), _, _, HRw3.out.setN (nj + 1)⟩, (HKj.out.trans HKw3.out).setCell (p := ⟨R, 2, none⟩) (.inl rfl) _⟩
                      first | exact hfin | ((repeat apply Exists.intro); exact ⟨hfin, rfl⟩)
                    case measure =>
                      rw [HMs.out]
                      exact Nat.lt_of_le_of_lt (Nat.le_of_eq (msR_err (er := (7, pj)) (bs := bs) (A := A) (c := c) ⟨(show (7 : Nat) ≠ 0 by decide), _, _, HRw3.out.setN (nj + 1)⟩ _)) (Nat.succ_pos _)
                  · have td : decide (32 ≤ (depth : Int)) = false := by simp; omega
                    have hc : opChk depth nj x = 0 := by rw [hq]; simp [h0, hn, h2, hd3]
                    have hdd : knd x = 2 → depth < 32 := fun _ => by omega
                    have HI : Hid (∀ w1, Rf R w1 A c bs (pj + 1) (nj + 1) 0 0 → Calls Tryz.prog 43 #[.pointer (some ⟨R, 0, none⟩), .int .i64 x, .int .i64 depth] w1 (InsQ R w1 A c bs (rdI f' depth (nj + 1) x (bs.drop (pj + 1)) (pj + 1)))) := Lib.hid (fun w1 hr1 => insR_any (HIH.out f' (by omega)) hr1 x depth hxI hdd (by omega) (by omega))
                    have hrd2 : r = match rdI f' depth (nj + 1) x (bs.drop (pj + 1)) (pj + 1) with | .error er => .error er | .ok ((nd, n'), l', p') => preN (ins.map (·.n) ++ [nd]) (rdL f' depth n' l' p') := by rw [hrd]; unfold rdO; rw [hc]; rfl
                    have hrO : rdO f' depth nj x (bs.drop (pj + 1)) pj = rdI f' depth (nj + 1) x (bs.drop (pj + 1)) (pj + 1) := by unfold rdO; rw [hc]; rfl
                    clear hrd hc hq HIH
                    cases hro : rdI f' depth (nj + 1) x (bs.drop (pj + 1)) (pj + 1) with
                    | error er =>
                      rw [hro] at HI hrd2
                      have HRe : Hid (r = .error er) := Lib.hid hrd2
                      unfold InsQ insC at HI
                      clear hro hrd2 hrO hdd
                      have fin : ∀ (w2 w3 : World) (v3 : Value) (o : Obj) (rs : List (List Value)), Kx (Only R) wr w2 → RfS R w2 A c bs (.error er) → OwnK w.heap.size w2 w3 49 9 v3 rs →
                          (∀ m, m < (w2.alloc o).heap.size → (Value.slice A6 ins.length c6).ownBlock ≠ some m → w3.heap[m]? = (w2.alloc o).heap[m]? ∧ v3.ownBlock ≠ some m) → (w2.alloc o).heap.size ≤ w3.heap.size → LsR R w A c bs r fuel depth v3 w3 ∧ msR R bs.length w3 < msR R bs.length wr := fun w2 w3 v3 o rs hk2 hr2 ho3 hkp hs3 => by
                        have hsz3 : w2.heap.size < w3.heap.size := Nat.lt_of_lt_of_le (by simp) hs3
                        have how : ∀ g, (Value.slice A6 ins.length c6).ownBlock = some g → w.heap.size ≤ g ∧ g < wr.heap.size := fun g hg => HOj.out.own_lt hg
                        have hkx : Kx (fun b => (Value.slice A6 ins.length c6).ownBlock = some b) w2 w3 := ⟨ho3.below.os, ho3.below.tape, ho3.below.output, Nat.le_of_lt hsz3, fun b hb hm => ((hkp b (by simp; omega) hm).1).trans (Below.heap_alloc _ _ _ hb)⟩
                        have hr3 : RfS R w3 A c bs (.error er) := hr2.kx hkx (fun e => by have := (how R e).1; omega) (fun b hb => by have := (how b hb).1; omega)
                        exact ⟨.inl ⟨er, HRe.out, hr3, (HKj.out.trans hk2).trans' hkx (fun b hb => .inr (how b hb).1)⟩, by rw [HMs.out, msR_err hr3]; exact Nat.succ_pos _⟩
                      have FIN := Lib.hid fin
                      clear fin
                      go_wp2_with (first
                        | (go_at_call 41; (with_reducible refine HBy.out.mono ?_); rintro e w1 ⟨rfl, hr, hk⟩; clear nc bc fr2 hRl; have HRw1 : Hid (Rf R w1 A c bs (pj + 1) nj 0 0) := Lib.hid hr; have HKw1 := Lib.hid hk; have nc : w1.cell? ⟨R, 2, none⟩ = some (.int .i64 nj) := HRw1.out.c2; have bc := HRw1.out.c3; have fr2 := HRw1.out.fr 2; have hRl := HRw1.out.lt; clear hr hk)
                        | (go_at_call 34; (with_reducible refine (HKd.out _).mono ?_); rintro e w2 ⟨rfl, hb⟩; clear nc bc fr2 hRl; have HRw2 := Lib.hid (HRw1.out.later hb); have HKw2 := Lib.hid (HKw1.out.trans (.of_below hb)); have nc : w2.cell? ⟨R, 2, none⟩ = some (.int .i64 nj) := HRw2.out.c2; have bc := HRw2.out.c3; have fr2 := HRw2.out.fr 2; have hRl := HRw2.out.lt; clear hb)
                        | (go_at_call 42; (with_reducible refine (HFl.out _).mono ?_); rintro e w2_ ⟨rfl, rfl⟩)
                        | (go_at_call 43; (with_reducible refine (HI.out _ HRw2.out.setN1).mono ?_); rintro e w4 ⟨C, rfl, hr, hk⟩; clear nc bc fr2 hRl; have HR4 := Lib.hid hr; have HK4 := Lib.hid (((HKw2.out.setCell (p := ⟨R, 2, none⟩) (.inl rfl) _)).trans hk); have HO2 := Lib.hid (HOj.out.kx HK4.out hRw); clear hr hk)
                        | (at_builtin; refine wpList_pushK rfl (.tmp 83) (.tmp 85) _ rfl 120 Tryz.underlying22 elem_ins (by decide) _ _ _ rfl (HO2.out.alloc _) rfl (by simp) rfl (In.one C) (by simp only [List.length_map]; omega) (by simp only [List.length_map]; unfold maxLen; omega) ?_; intro v3 w3 ho3 hk3 hs3; have HF := Lib.hid (FIN.out w4 w3 v3 _ _ HK4.out HR4.out ho3 hk3 hs3); clear ho3 hk3 hs3))
                      go_roundw
                      case rel => first | exact HF.out.1 | ((repeat apply Exists.intro); exact ⟨HF.out.1, rfl⟩)
                      case measure => exact HF.out.2
                    | ok y =>
                      obtain ⟨⟨nd, n'⟩, l', p'⟩ := y
                      obtain ⟨rfl, hq1, hq2, hq3, hq4⟩ := rdO_got (hrO.trans hro) (by omega) hd hnj
                      rw [hro] at HI hrd2
                      have HRd := Lib.hid hrd2
                      unfold InsQ insC at HI
                      clear hro hrd2 hrO hdd
                      have fin : ∀ (w1 w2 w3 : World) (v3 : Value) (pl : Pl) (o : Obj), Kx (Only R) wr w1 → Kx (Only R) w1 w2 → NewN (Win w1.heap.size w2) w2 w2.heap.size ⟨nd, pl⟩ → RfS R w2 A c bs (.ok (p', n')) → OwnK w.heap.size w2 w3 49 9 v3 (ins.map In.cells ++ [(insC nd pl).toList]) →
                          (∀ m, m < (w2.alloc o).heap.size → (Value.slice A6 ins.length c6).ownBlock ≠ some m → w3.heap[m]? = (w2.alloc o).heap[m]? ∧ v3.ownBlock ≠ some m) → (w2.alloc o).heap.size ≤ w3.heap.size → LsR R w A c bs r fuel depth v3 w3 ∧ msR R bs.length w3 < msR R bs.length wr := fun w1 w2 w3 v3 pl o hk1 hk2 nn hr2 ho3 hkp hs3 => by
                        have hk12 := hk1.trans hk2
                        have hsz3 : w2.heap.size < w3.heap.size := Nat.lt_of_lt_of_le (by simp) hs3
                        have hb3 : ∀ m, m < w2.heap.size → (Value.slice A6 ins.length c6).ownBlock ≠ some m → w3.heap[m]? = w2.heap[m]? ∧ v3.ownBlock ≠ some m := fun m hm hv => by
                          obtain ⟨e1, e2⟩ := hkp m (by simp; omega) hv
                          exact ⟨e1.trans (Below.heap_alloc _ _ _ hm), e2⟩
                        have how : ∀ g, (Value.slice A6 ins.length c6).ownBlock = some g → w.heap.size ≤ g ∧ g < wr.heap.size := fun g hg => HOj.out.own_lt hg
                        have hkx : Kx (fun b => (Value.slice A6 ins.length c6).ownBlock = some b) w2 w3 := ⟨ho3.below.os, ho3.below.tape, ho3.below.output, Nat.le_of_lt hsz3, fun b hb hm => (hb3 b hb hm).1⟩
                        have hr3 : RfS R w3 A c bs (.ok (p', n')) := hr2.kx hkx (fun e => by have := (how R e).1; omega) (fun b hb => by have := (how b hb).1; omega)
                        refine ⟨.inr ⟨ins ++ [⟨nd, pl⟩], p', n', f', by rw [HRd.out, List.map_append]; rfl, by omega, by omega, hq4, by simp; omega, hr3, (HKj.out.trans hk12).trans' hkx (fun b hb => .inr (how b hb).1), by rw [List.map_append]; exact ho3.self, fun y hy => ?_⟩, by rw [HMs.out, msR_ok hr3]; omega⟩
                        have hs12 := hk12.size
                        rcases List.mem_append.1 hy with hy | hy
                        · refine (HNew.out y hy).move (agr_of_heap fun b hb => ?_) (fun b hb => ⟨hb.1, by have := hb.2.1; omega, (hb3 b (by have := hb.2.1; omega) hb.2.2).2⟩) (by omega)
                          rw [(hb3 b (by have := hb.2.1; omega) hb.2.2).1, hk12.block b hb.2.1 (by have := hb.1; simp; omega)]
                        · simp at hy
                          subst hy
                          have hown : ∀ b, w1.heap.size ≤ b → (Value.slice A6 ins.length c6).ownBlock ≠ some b := fun b hb e => by have := (how b e).2; have := hk1.size; omega
                          refine nn.move (agr_of_heap fun b hb => ?_) (fun b hb => ⟨by have := hb.1; have := hk1.size; omega, by have := hb.2; omega, (hb3 b hb.2 (hown b hb.1)).2⟩) (by omega)
                          rw [(hb3 b hb.2 (hown b hb.1)).1]
                      have FIN := Lib.hid fin
                      clear fin
                      go_wp2_with (first
                        | (go_at_call 41; (with_reducible refine HBy.out.mono ?_); rintro e w1 ⟨rfl, hr, hk⟩; clear nc bc fr2 hRl; have HRw1 : Hid (Rf R w1 A c bs (pj + 1) nj 0 0) := Lib.hid hr; have HKw1 := Lib.hid hk; have nc : w1.cell? ⟨R, 2, none⟩ = some (.int .i64 nj) := HRw1.out.c2; have bc := HRw1.out.c3; have fr2 := HRw1.out.fr 2; have hRl := HRw1.out.lt; clear hr hk)
                        | (go_at_call 34; (with_reducible refine (HKd.out _).mono ?_); rintro e w2 ⟨rfl, hb⟩; clear nc bc fr2 hRl; have HRw2 := Lib.hid (HRw1.out.later hb); have HKw2 := Lib.hid (HKw1.out.trans (.of_below hb)); have nc : w2.cell? ⟨R, 2, none⟩ = some (.int .i64 nj) := HRw2.out.c2; have bc := HRw2.out.c3; have fr2 := HRw2.out.fr 2; have hRl := HRw2.out.lt; clear hb)
                        | (go_at_call 42; (with_reducible refine (HFl.out _).mono ?_); rintro e w2_ ⟨rfl, rfl⟩)
                        | (go_at_call 43; (with_reducible refine (HI.out _ HRw2.out.setN1).mono ?_); rintro e w4 ⟨pl, rfl, nn, hr, hk⟩; clear nc bc fr2 hRl; have HN4 := Lib.hid nn; have HR4 := Lib.hid hr; have HKs := Lib.hid (HKw2.out.setCell (p := ⟨R, 2, none⟩) (.inl rfl) (.int .i64 ((nj : Int) + 1))); have HK4 := Lib.hid hk; have HO2 := Lib.hid (HOj.out.kx (HKs.out.trans hk) hRw); clear nn hr hk)
                        | (at_builtin; refine wpList_pushK rfl (.tmp 83) (.tmp 85) _ rfl 120 Tryz.underlying22 elem_ins (by decide) _ _ _ rfl (HO2.out.alloc _) rfl (by simp) rfl (In.one ⟨nd, pl⟩) (by simp only [List.length_map]; omega) (by simp only [List.length_map]; unfold maxLen; omega) ?_; intro v3 w3 ho3 hk3 hs3; have HF := Lib.hid (FIN.out _ w4 w3 v3 pl _ HKs.out HK4.out HN4.out HR4.out ho3 hk3 hs3); clear ho3 hk3 hs3))
                      go_roundw
                      case rel => first | exact HF.out.1 | ((repeat apply Exists.intro); exact ⟨HF.out.1, rfl⟩)
                      case measure => exact HF.out.2
                · have u2 : (k == 2) = false := by simpa using h2
                  have hc : opChk depth nj x = 0 := by rw [hq]; simp [h0, hn, h2]
                  have hdd : knd x = 2 → depth < 32 := fun e => absurd (hk.trans e) h2
                  have HI : Hid (∀ w1, Rf R w1 A c bs (pj + 1) (nj + 1) 0 0 → Calls Tryz.prog 43 #[.pointer (some ⟨R, 0, none⟩), .int .i64 x, .int .i64 depth] w1 (InsQ R w1 A c bs (rdI f' depth (nj + 1) x (bs.drop (pj + 1)) (pj + 1)))) := Lib.hid (fun w1 hr1 => insR_any (HIH.out f' (by omega)) hr1 x depth hxI hdd (by omega) (by omega))
                  have hrd2 : r = match rdI f' depth (nj + 1) x (bs.drop (pj + 1)) (pj + 1) with | .error er => .error er | .ok ((nd, n'), l', p') => preN (ins.map (·.n) ++ [nd]) (rdL f' depth n' l' p') := by rw [hrd]; unfold rdO; rw [hc]; rfl
                  have hrO : rdO f' depth nj x (bs.drop (pj + 1)) pj = rdI f' depth (nj + 1) x (bs.drop (pj + 1)) (pj + 1) := by unfold rdO; rw [hc]; rfl
                  clear hrd hc hq HIH
                  cases hro : rdI f' depth (nj + 1) x (bs.drop (pj + 1)) (pj + 1) with
                  | error er =>
                    rw [hro] at HI hrd2
                    have HRe : Hid (r = .error er) := Lib.hid hrd2
                    unfold InsQ insC at HI
                    clear hro hrd2 hrO hdd
                    have fin : ∀ (w2 w3 : World) (v3 : Value) (o : Obj) (rs : List (List Value)), Kx (Only R) wr w2 → RfS R w2 A c bs (.error er) → OwnK w.heap.size w2 w3 49 9 v3 rs →
                        (∀ m, m < (w2.alloc o).heap.size → (Value.slice A6 ins.length c6).ownBlock ≠ some m → w3.heap[m]? = (w2.alloc o).heap[m]? ∧ v3.ownBlock ≠ some m) → (w2.alloc o).heap.size ≤ w3.heap.size → LsR R w A c bs r fuel depth v3 w3 ∧ msR R bs.length w3 < msR R bs.length wr := fun w2 w3 v3 o rs hk2 hr2 ho3 hkp hs3 => by
                      have hsz3 : w2.heap.size < w3.heap.size := Nat.lt_of_lt_of_le (by simp) hs3
                      have how : ∀ g, (Value.slice A6 ins.length c6).ownBlock = some g → w.heap.size ≤ g ∧ g < wr.heap.size := fun g hg => HOj.out.own_lt hg
                      have hkx : Kx (fun b => (Value.slice A6 ins.length c6).ownBlock = some b) w2 w3 := ⟨ho3.below.os, ho3.below.tape, ho3.below.output, Nat.le_of_lt hsz3, fun b hb hm => ((hkp b (by simp; omega) hm).1).trans (Below.heap_alloc _ _ _ hb)⟩
                      have hr3 : RfS R w3 A c bs (.error er) := hr2.kx hkx (fun e => by have := (how R e).1; omega) (fun b hb => by have := (how b hb).1; omega)
                      exact ⟨.inl ⟨er, HRe.out, hr3, (HKj.out.trans hk2).trans' hkx (fun b hb => .inr (how b hb).1)⟩, by rw [HMs.out, msR_err hr3]; exact Nat.succ_pos _⟩
                    have FIN := Lib.hid fin
                    clear fin
                    go_wp2_with (first
                      | (go_at_call 41; (with_reducible refine HBy.out.mono ?_); rintro e w1 ⟨rfl, hr, hk⟩; clear nc bc fr2 hRl; have HRw1 : Hid (Rf R w1 A c bs (pj + 1) nj 0 0) := Lib.hid hr; have HKw1 := Lib.hid hk; have nc : w1.cell? ⟨R, 2, none⟩ = some (.int .i64 nj) := HRw1.out.c2; have bc := HRw1.out.c3; have fr2 := HRw1.out.fr 2; have hRl := HRw1.out.lt; clear hr hk)
                      | (go_at_call 34; (with_reducible refine (HKd.out _).mono ?_); rintro e w2 ⟨rfl, hb⟩; clear nc bc fr2 hRl; have HRw2 := Lib.hid (HRw1.out.later hb); have HKw2 := Lib.hid (HKw1.out.trans (.of_below hb)); have nc : w2.cell? ⟨R, 2, none⟩ = some (.int .i64 nj) := HRw2.out.c2; have bc := HRw2.out.c3; have fr2 := HRw2.out.fr 2; have hRl := HRw2.out.lt; clear hb)
                      | (go_at_call 42; (with_reducible refine (HFl.out _).mono ?_); rintro e w2_ ⟨rfl, rfl⟩)
                      | (go_at_call 43; (with_reducible refine (HI.out _ HRw2.out.setN1).mono ?_); rintro e w4 ⟨C, rfl, hr, hk⟩; clear nc bc fr2 hRl; have HR4 := Lib.hid hr; have HK4 := Lib.hid (((HKw2.out.setCell (p := ⟨R, 2, none⟩) (.inl rfl) _)).trans hk); have HO2 := Lib.hid (HOj.out.kx HK4.out hRw); clear hr hk)
                      | (at_builtin; refine wpList_pushK rfl (.tmp 83) (.tmp 85) _ rfl 120 Tryz.underlying22 elem_ins (by decide) _ _ _ rfl (HO2.out.alloc _) rfl (by simp) rfl (In.one C) (by simp only [List.length_map]; omega) (by simp only [List.length_map]; unfold maxLen; omega) ?_; intro v3 w3 ho3 hk3 hs3; have HF := Lib.hid (FIN.out w4 w3 v3 _ _ HK4.out HR4.out ho3 hk3 hs3); clear ho3 hk3 hs3))
                    go_roundw
                    case rel => first | exact HF.out.1 | ((repeat apply Exists.intro); exact ⟨HF.out.1, rfl⟩)
                    case measure => exact HF.out.2
                  | ok y =>
                    obtain ⟨⟨nd, n'⟩, l', p'⟩ := y
                    obtain ⟨rfl, hq1, hq2, hq3, hq4⟩ := rdO_got (hrO.trans hro) (by omega) hd hnj
                    rw [hro] at HI hrd2
                    have HRd := Lib.hid hrd2
                    unfold InsQ insC at HI
                    clear hro hrd2 hrO hdd
                    have fin : ∀ (w1 w2 w3 : World) (v3 : Value) (pl : Pl) (o : Obj), Kx (Only R) wr w1 → Kx (Only R) w1 w2 → NewN (Win w1.heap.size w2) w2 w2.heap.size ⟨nd, pl⟩ → RfS R w2 A c bs (.ok (p', n')) → OwnK w.heap.size w2 w3 49 9 v3 (ins.map In.cells ++ [(insC nd pl).toList]) →
                        (∀ m, m < (w2.alloc o).heap.size → (Value.slice A6 ins.length c6).ownBlock ≠ some m → w3.heap[m]? = (w2.alloc o).heap[m]? ∧ v3.ownBlock ≠ some m) → (w2.alloc o).heap.size ≤ w3.heap.size → LsR R w A c bs r fuel depth v3 w3 ∧ msR R bs.length w3 < msR R bs.length wr := fun w1 w2 w3 v3 pl o hk1 hk2 nn hr2 ho3 hkp hs3 => by
                      have hk12 := hk1.trans hk2
                      have hsz3 : w2.heap.size < w3.heap.size := Nat.lt_of_lt_of_le (by simp) hs3
                      have hb3 : ∀ m, m < w2.heap.size → (Value.slice A6 ins.length c6).ownBlock ≠ some m → w3.heap[m]? = w2.heap[m]? ∧ v3.ownBlock ≠ some m := fun m hm hv => by
                        obtain ⟨e1, e2⟩ := hkp m (by simp; omega) hv
                        exact ⟨e1.trans (Below.heap_alloc _ _ _ hm), e2⟩
                      have how : ∀ g, (Value.slice A6 ins.length c6).ownBlock = some g → w.heap.size ≤ g ∧ g < wr.heap.size := fun g hg => HOj.out.own_lt hg
                      have hkx : Kx (fun b => (Value.slice A6 ins.length c6).ownBlock = some b) w2 w3 := ⟨ho3.below.os, ho3.below.tape, ho3.below.output, Nat.le_of_lt hsz3, fun b hb hm => (hb3 b hb hm).1⟩
                      have hr3 : RfS R w3 A c bs (.ok (p', n')) := hr2.kx hkx (fun e => by have := (how R e).1; omega) (fun b hb => by have := (how b hb).1; omega)
                      refine ⟨.inr ⟨ins ++ [⟨nd, pl⟩], p', n', f', by rw [HRd.out, List.map_append]; rfl, by omega, by omega, hq4, by simp; omega, hr3, (HKj.out.trans hk12).trans' hkx (fun b hb => .inr (how b hb).1), by rw [List.map_append]; exact ho3.self, fun y hy => ?_⟩, by rw [HMs.out, msR_ok hr3]; omega⟩
                      have hs12 := hk12.size
                      rcases List.mem_append.1 hy with hy | hy
                      · refine (HNew.out y hy).move (agr_of_heap fun b hb => ?_) (fun b hb => ⟨hb.1, by have := hb.2.1; omega, (hb3 b (by have := hb.2.1; omega) hb.2.2).2⟩) (by omega)
                        rw [(hb3 b (by have := hb.2.1; omega) hb.2.2).1, hk12.block b hb.2.1 (by have := hb.1; simp; omega)]
                      · simp at hy
                        subst hy
                        have hown : ∀ b, w1.heap.size ≤ b → (Value.slice A6 ins.length c6).ownBlock ≠ some b := fun b hb e => by have := (how b e).2; have := hk1.size; omega
                        refine nn.move (agr_of_heap fun b hb => ?_) (fun b hb => ⟨by have := hb.1; have := hk1.size; omega, by have := hb.2; omega, (hb3 b hb.2 (hown b hb.1)).2⟩) (by omega)
                        rw [(hb3 b hb.2 (hown b hb.1)).1]
                    have FIN := Lib.hid fin
                    clear fin
                    go_wp2_with (first
                      | (go_at_call 41; (with_reducible refine HBy.out.mono ?_); rintro e w1 ⟨rfl, hr, hk⟩; clear nc bc fr2 hRl; have HRw1 : Hid (Rf R w1 A c bs (pj + 1) nj 0 0) := Lib.hid hr; have HKw1 := Lib.hid hk; have nc : w1.cell? ⟨R, 2, none⟩ = some (.int .i64 nj) := HRw1.out.c2; have bc := HRw1.out.c3; have fr2 := HRw1.out.fr 2; have hRl := HRw1.out.lt; clear hr hk)
                      | (go_at_call 34; (with_reducible refine (HKd.out _).mono ?_); rintro e w2 ⟨rfl, hb⟩; clear nc bc fr2 hRl; have HRw2 := Lib.hid (HRw1.out.later hb); have HKw2 := Lib.hid (HKw1.out.trans (.of_below hb)); have nc : w2.cell? ⟨R, 2, none⟩ = some (.int .i64 nj) := HRw2.out.c2; have bc := HRw2.out.c3; have fr2 := HRw2.out.fr 2; have hRl := HRw2.out.lt; clear hb)
                      | (go_at_call 42; (with_reducible refine (HFl.out _).mono ?_); rintro e w2_ ⟨rfl, rfl⟩)
                      | (go_at_call 43; (with_reducible refine (HI.out _ HRw2.out.setN1).mono ?_); rintro e w4 ⟨pl, rfl, nn, hr, hk⟩; clear nc bc fr2 hRl; have HN4 := Lib.hid nn; have HR4 := Lib.hid hr; have HKs := Lib.hid (HKw2.out.setCell (p := ⟨R, 2, none⟩) (.inl rfl) (.int .i64 ((nj : Int) + 1))); have HK4 := Lib.hid hk; have HO2 := Lib.hid (HOj.out.kx (HKs.out.trans hk) hRw); clear nn hr hk)
                      | (at_builtin; refine wpList_pushK rfl (.tmp 83) (.tmp 85) _ rfl 120 Tryz.underlying22 elem_ins (by decide) _ _ _ rfl (HO2.out.alloc _) rfl (by simp) rfl (In.one ⟨nd, pl⟩) (by simp only [List.length_map]; omega) (by simp only [List.length_map]; unfold maxLen; omega) ?_; intro v3 w3 ho3 hk3 hs3; have HF := Lib.hid (FIN.out _ w4 w3 v3 pl _ HKs.out HK4.out HN4.out HR4.out ho3 hk3 hs3); clear ho3 hk3 hs3))
                    go_roundw
                    case rel => first | exact HF.out.1 | ((repeat apply Exists.intro); exact ⟨HF.out.1, rfl⟩)
                    case measure => exact HF.out.2
end Go.Proofs.YtbhniddgkdldlaaGreatDoor

/- The reference's reader of layer 6: contract of Expr; of grommetlaw00.Told. -/
namespace Go.Proofs.YtbhniddgkdldlaaGreatDoor
open Go.RowKit Trx
/-- what Expr leaves. -/
def ExprQ (R : Nat) (w : World) (A : Option Addr) (c : Nat) (bs : List UInt8) : Rs Fo → Ending → World → Prop
  | .error er, e, w' => ∃ v, e = .returned v ∧ RfS R w' A c bs (.error er) ∧ Kx (Only R) w w'
  | .ok (f, _, p'), e, w' => ∃ A' c' n', e = .returned (.slice A' (len f) c') ∧ len f ≤ c' ∧ c' ≤ maxLen ∧ NewF (Win w.heap.size w') w' w'.heap.size A' f ∧ Rf R w' A c bs p' n' 0 0 ∧ Kx (Only R) w w'
section
variable {R : Nat} {w : World} {A : Option Addr} {c : Nat} {bs : List UInt8} {p n : Nat}
set_option maxHeartbeats 4000000 in
set_option maxRecDepth 100000 in
theorem Expr_any (h : Rf R w A c bs p n 0 0) : Calls Tryz.prog 14 #[.pointer (some ⟨R, 0, none⟩)] w (ExprQ R w A c bs (rdE (bs.drop p) p)) := by
  have c2 := h.c2
  have fr2 := h.fr 2
  have hRl := h.lt
  have hpl := h.hp
  have hcm : bs.length ≤ maxLen := Nat.le_trans h.hc h.hm
  unfold maxLen at hcm
  have HR0 : Hid (Rf R (w.setCell ⟨R, 2, none⟩ (.int .i64 0)) A c bs p 0 0 0) := Lib.hid (h.setN 0)
  have HK0 : Hid (Kx (Only R) w (w.setCell ⟨R, 2, none⟩ (.int .i64 0))) := Lib.hid (Kx.setCell (M := Only R) (p := ⟨R, 2, none⟩) Kx.refl_ (.inl rfl) _)
  have HS0 := Lib.hid (World.size_setCell w ⟨R, 2, none⟩ (.int .i64 0))
  have HL : Hid (∀ wx, Rf R wx A c bs p 0 0 0 → Calls Tryz.prog 25 #[.pointer (some ⟨R, 0, none⟩), .int .i64 0] wx (ListQ R wx A c bs (rdL ((bs.drop p).length + 1) 0 0 (bs.drop p) p))) := Lib.hid fun wx hx => by
    have := List_any ((bs.drop p).length + 1) R wx A c bs (.ok (p, 0)) 0 hx (by intro _ _ e; cases e; rw [List.length_drop]; omega) (by omega)
    exact this
  clear h
  unfold rdE
  cases hr : rdL ((bs.drop p).length + 1) 0 0 (bs.drop p) p with
  | error er =>
    rw [hr] at HL
    unfold ListQ at HL
    unfold ExprQ
    clear hr
    go_enter Tryz.func14, Tryz.ntmps14
    go_wp2_with (first | (go_at_call 25; (with_reducible refine (HL.out _ HR0.out).mono ?_); rintro e w1 ⟨A1, c1, f1, la, rfl, tl, hr1, hk1⟩; have HR1 := Lib.hid hr1; have HK1 := Lib.hid (HK0.out.trans hk1); clear hr1 hk1))
    go_ret
    exact ⟨_, rfl, HR1.out, HK1.out⟩
  | ok r =>
    obtain ⟨⟨f, last, n'⟩, l', p'⟩ := r
    have g := rdL_got _ _ _ _ _ _ _ _ _ _ hr (by omega) (by omega)
    obtain ⟨-, e1, e2⟩ := Adv.dropped g.adv hpl
    rw [hr] at HL
    unfold ListQ at HL
    clear hr g
    simp only
    by_cases h5 : last = 5
    · rw [if_pos h5]
      have t5 : ((last : Int) == 5) = true := by simp; omega
      have hp1 : 1 ≤ (p' : Int) := by omega
      have hp2 : (p' : Int) ≤ 9223372036854775807 := by omega
      have HAm : Hid (∀ wx, RfS R wx A c bs (.ok (p', n')) → Calls Tryz.prog 26 #[.pointer (some ⟨R, 0, none⟩), .int .i64 2, .int .i64 ((p' : Int) - 1)] wx fun e w' => e = .returned (.tuple #[]) ∧ RfS R w' A c bs (.error (2, p' - 1)) ∧ Kx (Only R) wx w') := Lib.hid fun wx hx => by
        rw [show (p' : Int) - 1 = ((p' - 1 : Nat) : Int) by omega]
        exact AmissS 2 2 rfl (by decide) hx (p' - 1)
      unfold ExprQ
      go_enter Tryz.func14, Tryz.ntmps14
      go_wp2_with (first
        | (go_at_call 25; (with_reducible refine (HL.out _ HR0.out).mono ?_); rintro e w1 ⟨A1, c1, rfl, l1, m1, nf, hr1, hk1⟩; have pc := (show Rf R w1 A c bs p' n' 0 0 from hr1).c1; have hRl1 := hr1.lt; have HR1 := Lib.hid hr1; have HK1 := Lib.hid (HK0.out.trans hk1); clear hr1 hk1 nf)
        | (go_at_call 26; (with_reducible refine (HAm.out _ HR1.out).mono ?_); rintro e w2 ⟨rfl, hr2, hk2⟩; have HR2 := Lib.hid hr2; have HK2 := Lib.hid (HK1.out.trans hk2); clear hr2 hk2))
      go_ret
      exact ⟨_, rfl, HR2.out, HK2.out⟩
    · rw [if_neg h5]
      have t5 : ((last : Int) == 5) = false := by simp; omega
      unfold ExprQ
      go_enter Tryz.func14, Tryz.ntmps14
      go_wp2_with (first
        | (go_at_call 25; (with_reducible refine (HL.out _ HR0.out).mono ?_); rintro e w1 ⟨A1, c1, rfl, l1, m1, nf, hr1, hk1⟩; have HNf := Lib.hid nf; have HR1 := Lib.hid hr1; have HK1 := Lib.hid (HK0.out.trans hk1); clear hr1 hk1 nf))
      go_ret
      refine ⟨A1, c1, n', rfl, l1, m1, ?_, HR1.out, HK1.out⟩
      have hnf := HNf.out
      rw [HS0.out] at hnf
      exact hnf
end
set_option maxRecDepth 100000 in
theorem told_any (v : Value) (a k : Nat) (w : World) (hE : Et w) (hs : SpotIs w v a k) :
    Calls Tryz.prog 15 #[v, .int .i64 k, .int .i64 a] w fun e w' => e = .returned (.bool true) ∧ Below w.heap.size w w' := by
  have HI := isSpot_any v a k a k w hE hs
  rw [show ((k : Int) == (k : Int) && (a : Int) == (a : Int)) = true by simp] at HI
  have HI := Lib.hid HI
  have t0 : ¬ ((a : Int) < 0) := by omega
  clear hE hs
  go_enter Tryz.func15, Tryz.ntmps15
  go_wp2_with (first | (go_at_call 19; (with_reducible refine HI.out.mono ?_); rintro e w1 ⟨rfl, hb⟩; have HB := Lib.hid hb; clear hb))
  go_ret
  exact ⟨rfl, HB.out⟩
theorem Rf.new {w : World} {A : Option Addr} {c : Nat} {bs : List UInt8} {p : Nat} (hs : Sl w w.heap.size A (u8s bs)) (hc : bs.length ≤ c) (hm : c ≤ maxLen) (hp : p ≤ bs.length) (t : TypeId) :
    Rf w.heap.size (w.alloc (.cells #[.slice A bs.length c, .int .i64 p, .int .i64 0, .int .i64 0, .int .i64 0] t)) A c bs p 0 0 0 :=
  ⟨World.cell?_alloc_at _ _ _ _ rfl, World.cell?_alloc_at _ _ _ _ rfl, World.cell?_alloc_at _ _ _ _ rfl, World.cell?_alloc_at _ _ _ _ rfl, World.cell?_alloc_at _ _ _ _ rfl, fun i => World.frozen?_alloc_at _ _ _ _ rfl, hs.below ((Below.refl _ _).alloc (Nat.le_refl _) _), hc, hm, hp⟩
end Go.Proofs.YtbhniddgkdldlaaGreatDoor
