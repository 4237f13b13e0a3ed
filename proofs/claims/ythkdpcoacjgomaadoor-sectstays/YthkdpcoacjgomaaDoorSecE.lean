/- Contracts of sect.rise and sect.Join. -/
import Derived.Test.YthkdpcoacjgomaaDoorSecD
import Derived.Test.YthkdpcoacjgomaaDoorLebT7
import Derived.Test.YthkdpcoacjgomaaDoorSecH
set_option linter.unusedVariables false
set_option linter.unusedSimpArgs false
namespace Go.Proofs.YthkdpcoacjgomaaDoor
open Go.RowKit Trx

namespace Sect
theorem rise_mem : ∀ (l : List Int) (hi : Int), rise hi l = true → 0 ≤ hi → ∀ i ∈ l, 0 ≤ i ∧ i ≤ 11
  | [], _, _, _, i, h => by simp at h
  | a :: r, hi, hr, h0, i, h => by
    rw [rise, Bool.and_eq_true] at hr
    have hf := fol_range hr.1 h0
    rcases List.mem_cons.1 h with rfl | h
    · exact hf
    · exact rise_mem r _ hr.2 (by omega) i h
theorem encL_take (l : List (Int × List UInt8)) (j : Nat) : (encL (l.take j)).length ≤ (encL l).length := by
  have h : encL (l.take j) ++ encL (l.drop j) = encL l := by
    unfold encL
    rw [← List.flatMap_append, List.take_append_drop]
  have := congrArg List.length h
  rw [List.length_append] at this
  omega
theorem encL_take_succ (l : List (Int × List UInt8)) (j : Nat) (h : j < l.length) : encL (l.take (j + 1)) = encL (l.take j) ++ encS l[j] := by
  rw [List.take_succ_eq_append_getElem h, encL_snoc]
end Sect

/-- leb.PutU in memory of its own. -/
theorem PutU_b (n : Nat) (w : World) (h : n < 18446744073709551616) :
    Calls Tryd.prog 24 #[.int .u64 n] w fun e w' => ∃ A c, e = .returned (.slice A (Leb.putU n).length c) ∧ Sl w' w'.heap.size A (u8s (Leb.putU n)) ∧ Below w.heap.size w w' := by
  refine (PutU_any n w h).mono ?_
  rintro e w' ⟨s, rfl, ho⟩
  obtain ⟨A, c, rfl, -, -, hs⟩ := ho.bytes
  exact ⟨A, c, rfl, hs, ho.below⟩

/-- what holds at the head of each round of rise. -/
def RiseL (l : List Sc) (w : World) (h i : Value) (wr : World) : Prop := ∃ (j : Nat) (hi : Int), i = .int .i64 j ∧ h = .int .i64 hi ∧ j ≤ l.length ∧ 0 ≤ hi ∧ hi ≤ 11 ∧ Hid (Sect.rise 0 (l.map (·.id)) = Sect.rise hi ((l.drop j).map (·.id))) ∧ Below w.heap.size w wr

set_option maxHeartbeats 8000000 in
set_option maxRecDepth 100000 in
theorem rise_any (l : List Sc) (A : Option Addr) (c : Nat) (w : World) (hs : SecsAt w w.heap.size A l) (hl : l.length ≤ 1000000) :
    Calls Tryd.prog 23 #[.slice A l.length c] w fun e w' => e = .returned (.bool (Sect.rise 0 (l.map (·.id)))) ∧ Below w.heap.size w w' := by
  have HS := Lib.hid hs
  obtain ⟨R, hR⟩ : ∃ R, Sect.rise 0 (l.map (·.id)) = R := ⟨_, rfl⟩
  rw [hR]
  have HR := Lib.hid hR
  clear hs hR
  go_enter Tryd.func23, Tryd.ntmps23
  go_wp2_with fail
  go_loopw [3, 8] (fun h i wr => RiseL l w h i wr) (fun _ i _ => l.length - (intOf i).toNat)
  case atStart => exact ⟨0, 0, rfl, rfl, by omega, by omega, by omega, Lib.hid rfl, Below.refl _ _⟩
  case round =>
    obtain ⟨j, hi, rfl, rfl, hj, hi0, hi11, HE, hb⟩ := hrel
    by_cases hlt : j < l.length
    · obtain ⟨s, hse⟩ : ∃ s, l[j] = s := ⟨_, rfl⟩
      obtain ⟨b, o, rfl, hbl, q0, q1, q2, hok⟩ := (HS.out.below hb).at_ hlt
      rw [hse] at q0 q1 q2 hok
      have hid := hok.id
      have HF := Lib.hid (fun w' => follows_any s.id hi w' hid (by unfold inI; omega))
      have hbl' := Nat.lt_of_lt_of_le hbl hb.size
      have hE := HE.out
      rw [List.drop_eq_getElem_cons hlt, hse, List.map_cons, Sect.rise] at hE
      obtain ⟨f, hf⟩ : ∃ f, Sect.fol s.id hi = f := ⟨_, rfl⟩
      rw [hf] at HF hE
      have HE2 := Lib.hid hE
      have HB := Lib.hid hb
      unfold inI at hid
      clear hok hE hse hb
      cases f
      · go_wp2_with (first
          | (go_at_call 18; (with_reducible refine (HF.out _).mono ?_); rintro e w1 ⟨rfl, hw1⟩; subst hw1))
        go_ret
        exact ⟨by rw [← HR.out, HE2.out]; rfl, HB.out.alloc HB.out.size _⟩
      · have hxr := Sect.fol_range hf hi0
        have hmx : (s.id ≤ hi ∧ max hi s.id = hi) ∨ (¬ s.id ≤ hi ∧ max hi s.id = s.id) := by omega
        rcases hmx with ⟨hmx, hme⟩ | ⟨hmx, hme⟩
        all_goals
          rw [hme] at HE2
          go_wp2_with (first
            | (go_at_call 18; (with_reducible refine (HF.out _).mono ?_); rintro e w1 ⟨rfl, hw1⟩; subst hw1))
          go_roundw
          case rel => exact ⟨j + 1, _, by go_num, rfl, by omega, by omega, by omega, Lib.hid (by rw [HE2.out]; rfl), HB.out.alloc HB.out.size _⟩
          case measure => simp [intOf]; omega
    · have hj' : j = l.length := by omega
      have hE := HE.out
      rw [hj', List.drop_length] at hE
      have HE2 := Lib.hid hE
      clear hE hj'
      go_wp2_with fail
      go_ret
      exact ⟨by rw [← HR.out, HE2.out]; rfl, hb⟩

/-- what may be joined. -/
def mayJ (l : List Sc) : Bool := decide (l.length ≤ 128) && Sect.rise 0 (l.map (·.id))
/-- its bytes. -/
def jnB (l : List Sc) : List UInt8 := Sect.magic ++ Sect.encL (l.map Sc.key)
/-- what a call that joins leaves. -/
def JoinR (l : List Sc) (w : World) : Ending → World → Prop := match mayJ l with
  | true => fun e w' => ∃ g c, e = .returned (.tuple #[.slice (some ⟨g, 0, none⟩) (jnB l).length c, .nilIface]) ∧ (jnB l).length ≤ c ∧ c ≤ maxLen ∧ Lies w w' g (jnB l)
  | false => fun e w' => e = .returned (.tuple #[.slice none 0 0, .iface 41 (.int .i64 1)]) ∧ Below w.heap.size w w'
/-- what holds at the head of each round of Join. -/
def JoinL (l : List Sc) (w : World) (v i : Value) (wr : World) : Prop := ∃ (j : Nat), i = .int .i64 j ∧ j ≤ l.length ∧ OwH w wr v (jnB (l.take j))
theorem jnB_ne (l : List Sc) : jnB l ≠ [] := by simp [jnB, Sect.magic]
theorem jnB_take (l : List Sc) (j : Nat) : (jnB (l.take j)).length ≤ (jnB l).length := by
  unfold jnB
  rw [List.map_take]
  have := Sect.encL_take (l.map Sc.key) j
  simp only [List.length_append]
  omega
theorem jnB_succ (l : List Sc) (j : Nat) (h : j < l.length) : jnB (l.take (j + 1)) = jnB (l.take j) ++ Sect.encS (l[j].key) := by
  unfold jnB
  rw [List.map_take, Sect.encL_take_succ _ _ (by simpa using h), List.map_take, List.append_assoc]
  simp
theorem jnB_mem (l : List Sc) (j : Nat) (h : j < l.length) : (jnB (l.take j)).length + (Sect.encS (l[j].key)).length ≤ (jnB l).length := by
  have h1 := jnB_take l (j + 1)
  rw [jnB_succ l j h, List.length_append] at h1
  exact h1
/-- three cells of a box. -/
structure Bx3 (w : World) (g : Nat) (s : Sc) : Prop where
  c0 : w.cell? ⟨g, 0, none⟩ = some (.int .i64 s.id)
  c1 : w.cell? ⟨g, 1, none⟩ = some (.int .i64 s.at_)
  c2 : w.cell? ⟨g, 2, none⟩ = some (.slice s.A s.bs.length s.c)
theorem Bx3.new (w : World) (s : Sc) (t : TypeId) (n : Nat) (hn : n = w.heap.size) : Bx3 (w.alloc (.cells #[.int .i64 s.id, .int .i64 s.at_, .slice s.A s.bs.length s.c] t)) n s := by
  subst hn
  exact ⟨World.cell?_alloc_at _ _ _ _ rfl, World.cell?_alloc_at _ _ _ _ rfl, World.cell?_alloc_at _ _ _ _ rfl⟩
theorem Bx3.kp {w w' : World} {g : Nat} {s : Sc} {v v' : Value} (h : Bx3 w g s) (hk : Kp w v w' v') (hv : v.ownBlock ≠ some g) : Bx3 w' g s := by
  have hl := World.block_lt_of_cell? _ _ h.c0
  exact ⟨(hk.cell hl hv).trans h.c0, (hk.cell hl hv).trans h.c1, (hk.cell hl hv).trans h.c2⟩
theorem Bx3.below {w w' : World} {g : Nat} {s : Sc} (h : Bx3 w g s) (hb : Below w.heap.size w w') : Bx3 w' g s := by
  have hl := World.block_lt_of_cell? _ _ h.c0
  exact ⟨(hb.cell (p := ⟨g, 0, none⟩) hl).trans h.c0, (hb.cell (p := ⟨g, 1, none⟩) hl).trans h.c1, (hb.cell (p := ⟨g, 2, none⟩) hl).trans h.c2⟩

set_option maxHeartbeats 8000000 in
set_option maxRecDepth 100000 in
theorem Join_any (l : List Sc) (A : Option Addr) (c : Nat) (w : World) (hs : SecsAt w w.heap.size A l) (hl : l.length ≤ 1000000) (hL : (jnB l).length ≤ 100000000) :
    Calls Tryd.prog 14 #[.slice A l.length c] w (JoinR l w) := by
  by_cases h128 : 128 < l.length
  · have hm : mayJ l = false := by unfold mayJ; simp; omega
    unfold JoinR
    rw [hm]
    dsimp only
    clear hm hs hL
    go_enter Tryd.func14, Tryd.ntmps14
    go_wp2_with fail
    go_ret2
    exact ⟨rfl, Below.refl _ _⟩
  · have HRi := Lib.hid (rise_any l A c w hs (by omega))
    have h128' : l.length ≤ 128 := by omega
    obtain ⟨r, hr⟩ : ∃ r, Sect.rise 0 (l.map (·.id)) = r := ⟨_, rfl⟩
    rw [hr] at HRi
    have hm : mayJ l = r := by unfold mayJ; rw [hr]; simp; omega
    cases r
    · unfold JoinR
      rw [hm]
      dsimp only
      clear hm hs hL hr
      go_enter Tryd.func14, Tryd.ntmps14
      go_wp2_with (first | (go_at_call 23; (with_reducible refine HRi.out.mono ?_); rintro e w1 ⟨rfl, hb1⟩; have HB1 := Lib.hid hb1; clear hb1))
      go_ret2
      exact ⟨rfl, HB1.out⟩
    · unfold JoinR
      rw [hm]
      dsimp only
      have HS := Lib.hid hs
      have HMem := Lib.hid (Sect.rise_mem _ _ hr (by omega))
      have HL := Lib.hid hL
      have HPu := Lib.hid (fun n w' => PutU_b n w')
      have kc := fun (w : World) (C : Array Value) (n c : Nat) => Lib.run_convert_bytes_const (P := Tryd.prog) w 22 5 C n c Tryd.underlying22 Tryd.underlying5
      clear hm hs hr hL
      go_enter Tryd.func14, Tryd.ntmps14
      go_wp2_with (first | (go_at_call 23; (with_reducible refine HRi.out.mono ?_); rintro e w1 ⟨rfl, hb1⟩; have HB1 := Lib.hid hb1; clear hb1))
      clear kc
      go_loopw [4, 20] (fun v i wr => JoinL l w v i wr) (fun _ i _ => l.length - (intOf i).toNat)
      case atStart => exact ⟨0, rfl, by omega, .inr ⟨_, rfl, (Lies.const w1 Sect.magic _ rfl _ _ rfl _ rfl).base HB1.out⟩⟩
      case round =>
        obtain ⟨j, rfl, hj, ho⟩ := hrel
        by_cases hlt : j < l.length
        · have hb := ho.below
          obtain ⟨s, hse⟩ : ∃ s, l[j] = s := ⟨_, rfl⟩
          obtain ⟨b, o, rfl, hbl, q0, q1, q2, hok⟩ := (HS.out.below hb).at_ hlt
          have hle := jnB_mem l j hlt
          rw [hse] at q0 q1 q2 hok hle
          rw [Sect.encS_length] at hle
          have hsm : s.id ∈ l.map (·.id) := List.mem_map.2 ⟨s, by rw [← hse]; exact List.getElem_mem hlt, rfl⟩
          have hi01 := HMem.out _ hsm
          have hi0 := hi01.1
          have hi11 := hi01.2
          have hLL := HL.out
          have hbl' := Nat.lt_of_lt_of_le hbl hb.size
          have hle2 : (jnB (l.take j)).length + s.bs.length + 20 ≤ 200000000 := by have := hle; simp only [Sc.key] at this; omega
          have h8 : ((UInt8.ofNat s.id.toNat).toNat : Int) = s.id := by rw [Leb.toNat_ofNat (by omega)]; omega
          have hp10 : (Leb.putU s.bs.length).length ≤ 10 := Leb.putU_len10 (by omega)
          have hslen : s.bs.length < 18446744073709551616 := by omega
          obtain ⟨pf, hpf⟩ : ∃ pf, jnB (l.take j) = pf := ⟨_, rfl⟩
          rw [hpf] at ho hle2
          have HO := Lib.hid ho
          have HB := Lib.hid hb
          have HOk := Lib.hid (HS.out.all s (by rw [← hse]; exact List.getElem_mem hlt))
          have HSe := Lib.hid hse
          have HPf := Lib.hid hpf
          clear ho hb hok hle hsm hi01 hLL hse hpf
          go_wp2_with (first
            | (at_builtin; refine wpl_head rfl (.tmp 24) (.tmp 28) rfl [UInt8.ofNat s.id.toNat] rfl (HO.out.later (((Below.refl _ _).alloc (Nat.le_refl _) _).alloc (by simp) _)) rfl (Sl.newbyte _ _ _ h8 _ _ (by simp)) rfl (by simp) (by omega) ?_; intro v1 w2 ho2 hk2; have hx2 := ((Bx3.new wr s 34 _ rfl).below ((Below.refl _ _).alloc (Nat.le_refl _) _)).kp hk2 (HO.out.new (Nat.le_refl _)); have e0 := hx2.c0; have e1 := hx2.c1; have e2 := hx2.c2; have HO2 := Lib.hid ho2; have HX2 := Lib.hid hx2; have HN2 := Lib.hid ((hk2.keep wr.heap.size (by simp; omega) (HO.out.new (Nat.le_refl _))).2); have hl2 := World.block_lt_of_cell? _ _ e0; clear ho2 hk2 hx2)
            | (go_at_call 24; (with_reducible refine (HPu.out _ _ hslen).mono ?_); rintro e w3 ⟨A3, c3, rfl, hs3, hb3⟩; have hx3 := HX2.out.below hb3; have g0 := hx3.c0; have g1 := hx3.c1; have g2 := hx3.c2; have HO3 := Lib.hid (HO2.out.later hb3); have HX3 := Lib.hid hx3; have HS3 := Lib.hid hs3; have hl3 := World.block_lt_of_cell? _ _ g0; clear hs3 hb3 hx3)
            | (at_builtin; refine wpl_bytes rfl (.tmp 30) (.tmp 35) rfl (Leb.putU s.bs.length) rfl HO3.out rfl HS3.out rfl (by simp; omega) ?_; intro v4 w4 ho4 hk4; have hx4 := HX3.out.kp hk4 HN2.out; have f0 := hx4.c0; have f1 := hx4.c1; have f2 := hx4.c2; have HO4 := Lib.hid ho4; have hl4 := World.block_lt_of_cell? _ _ f0; clear ho4 hk4 hx4)
            | (at_builtin; refine wpl_bytes rfl (.tmp 37) (.tmp 39) rfl s.bs rfl HO4.out rfl (HOk.out.sl.below (OwB.below HO4.out)) rfl (by simp; omega) ?_; intro v5 w5 ho5 hk5; have HO5 := Lib.hid ho5; clear ho5 hk5))
          go_roundw
          case rel =>
            refine ⟨j + 1, by go_num, by omega, .inl ?_⟩
            rw [jnB_succ l j hlt, HSe.out, HPf.out]
            have h := HO5.out
            rw [List.append_assoc, List.append_assoc] at h
            exact h
          case measure => simp [intOf]; omega
        · have hj' : j = l.length := by omega
          rw [hj', List.take_length] at ho
          obtain ⟨g, c', rfl, h1, h2, h3⟩ := ho.lies (jnB_ne l) (by have := HL.out; unfold maxLen; omega)
          have H1 := Lib.hid h1
          have H2 := Lib.hid h2
          have H3 := Lib.hid h3
          clear ho hj' h1 h2 h3
          go_wp2_with fail
          go_ret2
          exact ⟨g, c', rfl, H1.out, H2.out, H3.out⟩
end Go.Proofs.YthkdpcoacjgomaaDoor
