/- Contract of the reference's Join. -/
import Derived.Test.YthkdpcoacjgomaaDoorSecE
import Derived.Test.YthkdpcoacjgomaaDoorLebU7
set_option linter.unusedVariables false
set_option linter.unusedSimpArgs false
namespace Go.Proofs.YthkdpcoacjgomaaDoor
open Go.RowKit Trx

/-- what the reference's Join leaves. -/
def RJoinR (l : List Sc) (w : World) : Ending → World → Prop := match Sect.rise 0 (l.map (·.id)) with
  | true => fun e w' => ∃ g c, e = .returned (.tuple #[.slice (some ⟨g, 0, none⟩) (jnB l).length c, .bool (decide (l.length ≤ 128))]) ∧ (jnB l).length ≤ c ∧ c ≤ maxLen ∧ Lies w w' g (jnB l)
  | false => fun e w' => e = .returned (.tuple #[.slice none 0 0, .bool false]) ∧ Below w.heap.size w w'
/-- what holds at the head of each round. -/
def RJoinL (l : List Sc) (w : World) (v h i : Value) (wr : World) : Prop := ∃ (j : Nat) (hi : Int), i = .int .i64 j ∧ h = .int .i64 hi ∧ j ≤ l.length ∧ 0 ≤ hi ∧ hi ≤ 11 ∧ Hid (Sect.rise 0 (l.map (·.id)) = Sect.rise hi ((l.drop j).map (·.id))) ∧ OwB w wr v (jnB (l.take j))

/-- the reference's Put without a sign. -/
theorem RPut_b (n : Nat) (w : World) (h : n < 18446744073709551616) :
    Calls Tryd.prog 25 #[.int .u64 n, .bool false] w fun e w' => ∃ A c, e = .returned (.slice A (Leb.putU n).length c) ∧ Sl w' w'.heap.size A (u8s (Leb.putU n)) ∧ Below w.heap.size w w' := by
  refine (Put_any n false w h).mono ?_
  rintro e w' ⟨A, c, rfl, hs, hb, -⟩
  exact ⟨A, c, rfl, hs, hb⟩

set_option maxHeartbeats 16000000 in
set_option maxRecDepth 100000 in
theorem RJoin_any (l : List Sc) (A : Option Addr) (c : Nat) (w : World) (hs : SecsAt w w.heap.size A l) (hl : l.length ≤ 1000000) (hL : (jnB l).length ≤ 100000000) :
    Calls Tryd.prog 15 #[.slice A l.length c] w (RJoinR l w) := by
  have HMg := Lib.hid (fun w' => Magic_any w')
  have HS := Lib.hid hs
  have HL := Lib.hid hL
  have HPu := Lib.hid (fun n w' => RPut_b n w')
  obtain ⟨P, hP⟩ : ∃ P, RJoinR l w = P := ⟨_, rfl⟩
  rw [hP]
  have HPe := Lib.hid hP
  clear hP hs hL
  go_enter Tryd.func15, Tryd.ntmps15
  go_wp2_with (first | (go_at_call 20; (with_reducible refine (HMg.out _).mono ?_); rintro e w1 ⟨A1, c1, rfl, ho1⟩; have HO1 := Lib.hid ho1; clear ho1))
  go_loopw [4, 5, 6] (fun v h i wr => RJoinL l w v h i wr) (fun _ _ i _ => l.length - (intOf i).toNat)
  case atStart => exact ⟨0, 0, rfl, rfl, by omega, by omega, by omega, Lib.hid rfl, HO1.out⟩
  case round =>
    obtain ⟨j, hi, rfl, rfl, hj, hi0, hi11, HE, ho⟩ := hrel
    by_cases hlt : j < l.length
    · have hb := OwB.below ho
      obtain ⟨s, hse⟩ : ∃ s, l[j] = s := ⟨_, rfl⟩
      obtain ⟨b, o, rfl, hbl, p0, p1, p2, hok⟩ := HS.out.at_ hlt
      have hle := jnB_mem l j hlt
      rw [hse] at p0 p1 p2 hok hle
      rw [Sect.encS_length] at hle
      have q0 := (hb.cell (p := ⟨b, o + j * 3, none⟩) hbl).trans p0
      have q1 := (hb.cell (p := ⟨b, o + j * 3 + 1, none⟩) hbl).trans p1
      have q2 := (hb.cell (p := ⟨b, o + j * 3 + 2, none⟩) hbl).trans p2
      have hE := HE.out
      rw [List.drop_eq_getElem_cons hlt, hse, List.map_cons, Sect.rise] at hE
      have hid := hok.id
      unfold inI at hid
      have hbl' := Nat.lt_of_lt_of_le hbl hb.size
      have HOk := Lib.hid hok
      have HSe := Lib.hid hse
      have HP0 := Lib.hid p0
      have HP1 := Lib.hid p1
      have HP2 := Lib.hid p2
      have HB := Lib.hid hb
      have HO := Lib.hid ho
      have hLL := HL.out
      have hle2 : (jnB (l.take j)).length + s.bs.length + 20 ≤ 200000000 := by have := hle; simp only [Sc.key] at this; omega
      have hslen : s.bs.length < 18446744073709551616 := by omega
      have hp10 : (Leb.putU s.bs.length).length ≤ 10 := Leb.putU_len10 hslen
      obtain ⟨pf, hpf⟩ : ∃ pf, jnB (l.take j) = pf := ⟨_, rfl⟩
      have HPf := Lib.hid hpf
      rw [hpf] at HO hle2
      clear ho hb hok hle hse p0 p1 p2 hLL hpf
      have hcase : s.id < 0 ∨ (0 ≤ s.id ∧ 11 < s.id) ∨ ((0 ≤ s.id ∧ s.id ≤ 11) ∧ s.id ≠ 0 ∧ s.id ≤ hi) ∨ s.id = 0 ∨ ((0 ≤ s.id ∧ s.id ≤ 11) ∧ s.id ≠ 0 ∧ hi < s.id) := by omega
      rcases hcase with y0 | ⟨y0, y1⟩ | ⟨⟨y0, y1⟩, y2, y3⟩ | y0 | ⟨⟨y0, y1⟩, y2, y3⟩
      · have hf : Sect.fol s.id hi = false := by simp [Sect.fol]; omega
        rw [hf] at hE
        have HE2 := Lib.hid hE
        clear hE hf
        go_wp2_with fail
        rw [← HPe.out]
        unfold RJoinR
        rw [HE2.out]
        exact ⟨rfl, HB.out⟩
      · have hf : Sect.fol s.id hi = false := by simp [Sect.fol]; omega
        rw [hf] at hE
        have HE2 := Lib.hid hE
        clear hE hf
        go_wp2_with fail
        rw [← HPe.out]
        unfold RJoinR
        rw [HE2.out]
        exact ⟨rfl, HB.out⟩
      · have hf : Sect.fol s.id hi = false := by simp [Sect.fol]; omega
        rw [hf] at hE
        have HE2 := Lib.hid hE
        clear hE hf
        have z0 : (s.id == 0) = false := by simp; omega
        have z1 : (s.id != 0) = true := by simp; omega
        go_wp2_with fail
        rw [← HPe.out]
        unfold RJoinR
        rw [HE2.out]
        exact ⟨rfl, HB.out⟩
      · have hf : Sect.fol s.id hi = true := by simp [Sect.fol]; omega
        rw [hf, show max hi s.id = hi by omega] at hE
        have HE2 := Lib.hid hE
        have h8 : ((UInt8.ofNat s.id.toNat).toNat : Int) = s.id := by rw [Leb.toNat_ofNat (by omega)]; omega
        clear hE hf
        have z0 : (s.id == 0) = true := by simp; omega
        have z1 : (s.id != 0) = false := by simp; omega
        go_wp2_with (first
          | (at_builtin; refine wpl_bytes rfl (.tmp 56) (.tmp 63) rfl [UInt8.ofNat s.id.toNat] rfl (OwB.later HO.out ((Below.refl _ _).alloc (Nat.le_refl _) _)) rfl (Sl.newbyte _ _ _ (h8.trans y0) _ _ (by simp)) rfl (by omega) ?_; intro v2 w2 ho2 hk2; have hb2 := OwB.below ho2; have e0 := (hb2.cell (p := ⟨b, o + j * 3, none⟩) hbl).trans HP0.out; have e1 := (hb2.cell (p := ⟨b, o + j * 3 + 1, none⟩) hbl).trans HP1.out; have e2 := (hb2.cell (p := ⟨b, o + j * 3 + 2, none⟩) hbl).trans HP2.out; have HO2 := Lib.hid ho2; have hl2 := Nat.lt_of_lt_of_le hbl hb2.size; clear ho2 hk2 hb2)
          | (go_at_call 25; (with_reducible refine (HPu.out _ _ hslen).mono ?_); rintro e w3 ⟨A3, c3, rfl, hs3, hb3⟩; have ho3 := HO2.out.later hb3; have hb3w := OwB.below ho3; have g0 := (hb3w.cell (p := ⟨b, o + j * 3, none⟩) hbl).trans HP0.out; have g1 := (hb3w.cell (p := ⟨b, o + j * 3 + 1, none⟩) hbl).trans HP1.out; have g2 := (hb3w.cell (p := ⟨b, o + j * 3 + 2, none⟩) hbl).trans HP2.out; have HO3 := Lib.hid ho3; have HS3 := Lib.hid hs3; have hl3 := Nat.lt_of_lt_of_le hbl hb3w.size; clear hs3 hb3 ho3 hb3w)
          | (at_builtin; refine wpl_bytes rfl (.tmp 65) (.tmp 73) rfl (Leb.putU s.bs.length) rfl HO3.out rfl HS3.out rfl (by rw [List.length_append, List.length_singleton]; omega) ?_; intro v4 w4 ho4 hk4; have hb4 := OwB.below ho4; have f0 := (hb4.cell (p := ⟨b, o + j * 3, none⟩) hbl).trans HP0.out; have f1 := (hb4.cell (p := ⟨b, o + j * 3 + 1, none⟩) hbl).trans HP1.out; have f2 := (hb4.cell (p := ⟨b, o + j * 3 + 2, none⟩) hbl).trans HP2.out; have HO4 := Lib.hid ho4; have hl4 := Nat.lt_of_lt_of_le hbl hb4.size; clear ho4 hk4 hb4)
          | (at_builtin; refine wpl_bytes rfl (.tmp 75) (.tmp 80) rfl s.bs rfl HO4.out rfl (HOk.out.sl.below (OwB.below HO4.out)) rfl (by rw [List.length_append, List.length_append, List.length_singleton]; omega) ?_; intro v5 w5 ho5 hk5; have HO5 := Lib.hid ho5; clear ho5 hk5))
        go_roundw
        case rel =>
          refine ⟨j + 1, hi, by go_num, rfl, by omega, by omega, by omega, Lib.hid (by rw [HE2.out]; rfl), ?_⟩
          rw [jnB_succ l j hlt, HSe.out, HPf.out]
          have h := HO5.out
          rw [List.append_assoc, List.append_assoc] at h
          exact h
        case measure => simp [intOf]; omega
      · have hf : Sect.fol s.id hi = true := by simp [Sect.fol]; omega
        rw [hf, show max hi s.id = s.id by omega] at hE
        have HE2 := Lib.hid hE
        have h8 : ((UInt8.ofNat s.id.toNat).toNat : Int) = s.id := by rw [Leb.toNat_ofNat (by omega)]; omega
        clear hE hf
        have z0 : (s.id == 0) = false := by simp; omega
        have z1 : (s.id != 0) = true := by simp; omega
        go_wp2_with (first
          | (at_builtin; refine wpl_bytes rfl (.tmp 56) (.tmp 63) rfl [UInt8.ofNat s.id.toNat] rfl (OwB.later HO.out ((Below.refl _ _).alloc (Nat.le_refl _) _)) rfl (Sl.newbyte _ _ _ h8 _ _ (by simp)) rfl (by omega) ?_; intro v2 w2 ho2 hk2; have hb2 := OwB.below ho2; have e0 := (hb2.cell (p := ⟨b, o + j * 3, none⟩) hbl).trans HP0.out; have e1 := (hb2.cell (p := ⟨b, o + j * 3 + 1, none⟩) hbl).trans HP1.out; have e2 := (hb2.cell (p := ⟨b, o + j * 3 + 2, none⟩) hbl).trans HP2.out; have HO2 := Lib.hid ho2; have hl2 := Nat.lt_of_lt_of_le hbl hb2.size; clear ho2 hk2 hb2)
          | (go_at_call 25; (with_reducible refine (HPu.out _ _ hslen).mono ?_); rintro e w3 ⟨A3, c3, rfl, hs3, hb3⟩; have ho3 := HO2.out.later hb3; have hb3w := OwB.below ho3; have g0 := (hb3w.cell (p := ⟨b, o + j * 3, none⟩) hbl).trans HP0.out; have g1 := (hb3w.cell (p := ⟨b, o + j * 3 + 1, none⟩) hbl).trans HP1.out; have g2 := (hb3w.cell (p := ⟨b, o + j * 3 + 2, none⟩) hbl).trans HP2.out; have HO3 := Lib.hid ho3; have HS3 := Lib.hid hs3; have hl3 := Nat.lt_of_lt_of_le hbl hb3w.size; clear hs3 hb3 ho3 hb3w)
          | (at_builtin; refine wpl_bytes rfl (.tmp 65) (.tmp 73) rfl (Leb.putU s.bs.length) rfl HO3.out rfl HS3.out rfl (by rw [List.length_append, List.length_singleton]; omega) ?_; intro v4 w4 ho4 hk4; have hb4 := OwB.below ho4; have f0 := (hb4.cell (p := ⟨b, o + j * 3, none⟩) hbl).trans HP0.out; have f1 := (hb4.cell (p := ⟨b, o + j * 3 + 1, none⟩) hbl).trans HP1.out; have f2 := (hb4.cell (p := ⟨b, o + j * 3 + 2, none⟩) hbl).trans HP2.out; have HO4 := Lib.hid ho4; have hl4 := Nat.lt_of_lt_of_le hbl hb4.size; clear ho4 hk4 hb4)
          | (at_builtin; refine wpl_bytes rfl (.tmp 75) (.tmp 80) rfl s.bs rfl HO4.out rfl (HOk.out.sl.below (OwB.below HO4.out)) rfl (by rw [List.length_append, List.length_append, List.length_singleton]; omega) ?_; intro v5 w5 ho5 hk5; have HO5 := Lib.hid ho5; clear ho5 hk5))
        go_roundw
        case rel =>
          refine ⟨j + 1, s.id, by go_num, rfl, by omega, by omega, by omega, Lib.hid (by rw [HE2.out]; rfl), ?_⟩
          rw [jnB_succ l j hlt, HSe.out, HPf.out]
          have h := HO5.out
          rw [List.append_assoc, List.append_assoc] at h
          exact h
        case measure => simp [intOf]; omega
    · have hj' : j = l.length := by omega
      have hE := HE.out
      rw [hj', List.drop_length] at hE
      rw [hj', List.take_length] at ho
      obtain ⟨g, c', rfl, h1, h2, h3⟩ := OwB.lies ho (jnB_ne l)
      have HE2 := Lib.hid hE
      have H1 := Lib.hid h1
      have H2 := Lib.hid h2
      have H3 := Lib.hid h3
      obtain ⟨r, hr⟩ : ∃ r, decide (l.length ≤ 128) = r := ⟨_, rfl⟩
      have hr2 : decide ((l.length : Int) ≤ 128) = r := by rw [← hr]; exact decide_eq_decide.2 (by omega)
      clear ho hj' h1 h2 h3 hE
      go_wp2_with fail
      rw [← HPe.out]
      unfold RJoinR
      rw [HE2.out]
      refine ⟨g, c', ?_, H1.out, H2.out, H3.out⟩
      rw [hr]
end Go.Proofs.YthkdpcoacjgomaaDoor
