/- The reference's reader of layer 6: contract of ins as one, given what List does. -/
import Derived.Test.YtbhniddgkdldlaaGreatDoorExprRg
set_option linter.unusedVariables false
set_option linter.unusedSimpArgs false
namespace Go.Proofs.YtbhniddgkdldlaaGreatDoor.Trx
/-- what was read says the instruction and the state. -/
def tells (nd : Nd) (s2 : Sx) : Rs (Nd × Nat) → Prop
  | .error er => s2 = .error er
  | .ok ((nd', n'), _, p') => nd' = nd ∧ s2 = .ok (p', n')
section
variable {bs : List UInt8} {p n : Nat}
theorem onI_err {er : Nat × Nat} (h : rdInt (bs.drop p) p = .error er) : onI bs (.ok (p, n)) = (0, .error er) := by unfold onI onS; simp only [h]
theorem onI_ok {x : Int} {l : List UInt8} {p' : Nat} (h : rdInt (bs.drop p) p = .ok (x, l, p')) : onI bs (.ok (p, n)) = (x, .ok (p', n)) := by unfold onI onS; simp only [h]
theorem onG_err {bits : Nat} {er : Nat × Nat} (h : rdSig bits (bs.drop p) p = .error er) : onG bits bs (.ok (p, n)) = (0, .error er) := by unfold onG onS; simp only [h]
theorem onG_ok {bits : Nat} {x : Int} {l : List UInt8} {p' : Nat} (h : rdSig bits (bs.drop p) p = .ok (x, l, p')) : onG bits bs (.ok (p, n)) = (x, .ok (p', n)) := by unfold onG onS; simp only [h]
theorem onM_err {er : Nat × Nat} (h : rdMust 0 (bs.drop p) p = .error er) : onM bs (.ok (p, n)) = .error er := by unfold onM onS; simp only [h]
theorem onM_ok {x : Unit} {l : List UInt8} {p' : Nat} (h : rdMust 0 (bs.drop p) p = .ok (x, l, p')) : onM bs (.ok (p, n)) = .ok (p', n) := by unfold onM onS; simp only [h]
theorem onK_err {er : Nat × Nat} (h : rdKind (bs.drop p) p = .error er) : onK bs (.ok (p, n)) = (0, .error er) := by unfold onK onS; simp only [h]
theorem onK_ok {x : Int} {l : List UInt8} {p' : Nat} (h : rdKind (bs.drop p) p = .ok (x, l, p')) : onK bs (.ok (p, n)) = (x, .ok (p', n)) := by unfold onK onS; simp only [h]
theorem onK_range : 0 ≤ (onK bs (.ok (p, n))).1 ∧ (onK bs (.ok (p, n))).1 ≤ 2 := by
  cases hr : rdKind (bs.drop p) p with
  | error er => rw [onK_err hr]; simp
  | ok r => obtain ⟨t, l, p'⟩ := r; rw [onK_ok hr]; exact (kind_got hr).1
theorem onI_error (er : Nat × Nat) : onI bs (.error er) = (0, .error er) := rfl
theorem onM_error (er : Nat × Nat) : onM bs (.error er) = .error er := rfl
end
end Go.Proofs.YtbhniddgkdldlaaGreatDoor.Trx
namespace Go.Proofs.YtbhniddgkdldlaaGreatDoor
open Go.RowKit Trx
section
variable {R : Nat} {w : World} {A : Option Addr} {c : Nat} {bs : List UInt8} {p n : Nat} {s : Sx}
theorem insQ_plain {f : Nat} {args : Array Value} {r : Rs (Nd × Nat)} {b a a2 v : Int} {s2 : Sx} (ht : tells ⟨b, a, a2, v, 0, [], .nil, .nil, false⟩ s2 r) (hb : inI b) (ha : inI a) (ha2 : inI a2) (hv : inU v)
    (h : Calls Tryz.prog f args w fun e w' => e = .returned (.agg #[.int .i64 b, .int .i64 a, .int .i64 a2, .int .u64 v, .int .i64 0, .slice none 0 0, .slice none 0 0, .slice none 0 0, .bool false]) ∧ RfS R w' A c bs s2 ∧ Kx (Only R) w w') : Calls Tryz.prog f args w (InsQ R w A c bs r) := by
  refine h.mono fun e w' ⟨he, hr, hk⟩ => ?_
  rcases r with er | ⟨⟨nd, n'⟩, l', p'⟩
  · have ht : s2 = .error er := ht
    subst ht
    exact ⟨⟨⟨b, a, a2, v, 0, [], .nil, .nil, false⟩, ⟨none, 0, none, 0, none, 0⟩⟩, he, hr, hk⟩
  · obtain ⟨rfl, rfl⟩ : nd = _ ∧ s2 = .ok (p', n') := ht
    exact ⟨⟨none, 0, none, 0, none, 0⟩, he, newN_plain hb ha ha2 hv, hr, hk⟩
theorem inI_num {z : Int} (h : 0 ≤ z ∧ z ≤ 4294967295) : inI z := by unfold inI; omega
set_option maxHeartbeats 2000000 in
theorem insR_any {fuel : Nat} (hL : ListD fuel) (h : Rf R w A c bs p n 0 0) (b : Int) (depth : Nat) (hbI : inI b) (hd : knd b = 2 → depth < 32) (hn : n ≤ 512) (hfu : bs.length - p < fuel) :
    Calls Tryz.prog 43 #[.pointer (some ⟨R, 0, none⟩), .int .i64 b, .int .i64 depth] w (InsQ R w A c bs (rdI fuel depth n b (bs.drop p) p)) := by
  have hp := h.hp
  have hcm : bs.length ≤ maxLen := Nat.le_trans h.hc h.hm
  unfold maxLen at hcm
  unfold rdI
  by_cases c0 : knd b = 2
  · rw [if_pos c0]
    have hd2 := hd c0
    obtain ⟨t0, t1⟩ := onK_range (bs := bs) (p := p) (n := n)
    have htI : inI (onK bs (.ok (p, n))).1 := by unfold inI; omega
    have hdi : (depth : Int) ≤ 31 := by omega
    have ei : ((depth + 1 : Nat) : Int) = (depth : Int) + 1 := by omega
    have HLs : ∀ (s : Sx), (∀ p n, s = .ok (p, n) → bs.length - p < fuel ∧ n ≤ 512) → Hid (∀ wx, RfS R wx A c bs s → Calls Tryz.prog 25 #[.pointer (some ⟨R, 0, none⟩), .int .i64 ((depth : Int) + 1)] wx (ListQ R wx A c bs (onL fuel (depth + 1) bs s))) := fun s hs => Lib.hid fun wx hx => by
      rw [← ei]
      exact hL R wx A c bs s (depth + 1) hx hs hd2
    have HAm : ∀ (q m : Nat), 1 ≤ q → Hid (∀ wx, RfS R wx A c bs (.ok (q, m)) → Calls Tryz.prog 26 #[.pointer (some ⟨R, 0, none⟩), .int .i64 2, .int .i64 ((q : Int) - 1)] wx fun e w' => e = .returned (.tuple #[]) ∧ RfS R w' A c bs (.error (2, q - 1)) ∧ Kx (Only R) wx w') := fun q m hq => Lib.hid fun wx hx => by
      rw [show (q : Int) - 1 = ((q - 1 : Nat) : Int) by omega]
      exact AmissS 2 2 rfl (by decide) hx (q - 1)
    cases hr : rdKind (bs.drop p) p with
    | error er =>
      have HL1 := HLs (.error er) (by intro _ _ e; cases e)
      simp only
      rw [show onL fuel (depth + 1) bs (.error er) = .error er from rfl] at HL1
      exact insR_2a (s := .ok (p, n)) h b depth hbI c0 _ htI (.error er) rfl (by rw [onK_err hr]) hdi er HL1
    | ok r =>
      obtain ⟨t, l1, p1⟩ := r
      obtain ⟨rfl, e1, e2⟩ := Adv.dropped (kind_got hr).2 hp
      have et : t = (onK bs (.ok (p, n))).1 := by rw [onK_ok hr]
      have es : (.ok (p1, n) : Sx) = (onK bs (.ok (p, n))).2 := by rw [onK_ok hr]
      have HL1 := HLs (.ok (p1, n)) (by intro _ _ e; cases e; omega)
      rw [show onL fuel (depth + 1) bs (.ok (p1, n)) = rdL fuel (depth + 1) n (bs.drop p1) p1 from rfl] at HL1
      rw [← et] at htI
      simp only
      cases hr2 : rdL fuel (depth + 1) n (bs.drop p1) p1 with
      | error er =>
        rw [hr2] at HL1
        exact insR_2a (s := .ok (p, n)) h b depth hbI c0 t htI _ et es hdi er HL1
      | ok r2 =>
        obtain ⟨⟨body, last, n2⟩, l2, p2⟩ := r2
        have g2 := rdL_got _ _ _ _ _ _ _ _ _ _ hr2 hn (by omega)
        obtain ⟨rfl, e3, e4⟩ := Adv.dropped g2.adv e2
        have hn2 := g2.le
        rw [hr2] at HL1
        simp only
        by_cases h5 : last = 5
        · have t5 : ((last : Int) == 5) = true := by simp; omega
          by_cases h4 : b = 4
          · have t4 : (b == 4) = true := by simpa using h4
            rw [if_pos ⟨h5, h4⟩]
            have HL2 := HLs (.ok (p2, n2)) (by intro _ _ e; cases e; omega)
            rw [show onL fuel (depth + 1) bs (.ok (p2, n2)) = rdL fuel (depth + 1) n2 (bs.drop p2) p2 from rfl] at HL2
            cases hr3 : rdL fuel (depth + 1) n2 (bs.drop p2) p2 with
            | error er =>
              rw [hr3] at HL2
              exact insR_2b (s := .ok (p, n)) h b depth hbI c0 t htI _ et es hdi body last n2 _ p2 HL1 t5 t4 er HL2
            | ok r3 =>
              obtain ⟨⟨els, last3, n3⟩, l3, p3⟩ := r3
              have g3 := rdL_got _ _ _ _ _ _ _ _ _ _ hr3 hn2 (by omega)
              obtain ⟨rfl, e5, e6⟩ := Adv.dropped g3.adv e4
              rw [hr3] at HL2
              simp only
              by_cases h7 : last3 = 5
              · rw [if_pos h7]
                exact insR_2c (s := .ok (p, n)) h b depth hbI c0 t htI _ et es hdi body last n2 _ p2 HL1 t5 t4 els last3 n3 _ p3 HL2 (by simp; omega) (HAm p3 n3 (by omega)) (by omega) (by omega)
              · rw [if_neg h7]
                exact insR_2d (s := .ok (p, n)) h b depth hbI c0 t htI _ et es hdi body last n2 _ p2 HL1 t5 t4 els last3 n3 _ p3 HL2 (by simp; omega)
          · have t4 : (b == 4) = false := by simpa using h4
            rw [if_neg (fun e => h4 e.2), if_pos h5]
            exact insR_2e (s := .ok (p, n)) h b depth hbI c0 t htI _ et es hdi body last n2 _ p2 HL1 t5 t4 (HAm p2 n2 (by omega)) (by omega) (by omega)
        · rw [if_neg (fun e => h5 e.1), if_neg h5]
          exact insR_2f (s := .ok (p, n)) h b depth hbI c0 t htI _ et es hdi body last n2 _ p2 HL1 (by simp; omega)
  rw [if_neg c0]
  have t2 : (knd b == 2) = false := by simpa using c0
  have hS : RfS R w A c bs (.ok (p, n)) := h
  unfold rdP
  by_cases c1 : knd b = 7 ∨ knd b = 8
  · rw [if_pos c1]
    refine insQ_plain ?_ hbI (inI_num (onInt_range _ _)) (inI_num (onInt_range _ _)) inU0 (insR_7 hS b depth (knd b) rfl t2 ?_)
    · cases hr : rdInt (bs.drop p) p with
      | error er => simp only; rw [onI_err hr]; exact rfl
      | ok r =>
        obtain ⟨x, l1, p1⟩ := r
        obtain ⟨rfl, -, e2⟩ := Adv.dropped (int_got hr).2 hp
        rw [onI_ok hr]
        simp only
        cases hr2 : rdInt (bs.drop p1) p1 with
        | error er => simp only; rw [onI_err hr2]; exact rfl
        | ok r2 => obtain ⟨y, l2, p2⟩ := r2; simp only; rw [onI_ok hr2]; exact ⟨rfl, rfl⟩
    · rcases c1 with c1 | c1
      · exact .inl (by simpa using c1)
      · exact .inr ⟨by rw [c1]; rfl, by simpa using c1⟩
  have t7 : (knd b == 7) = false := by simp; omega
  have t8 : (knd b == 8) = false := by simp; omega
  rw [if_neg c1]
  by_cases c2 : knd b = 9
  · rw [if_pos c2]
    refine insQ_plain ?_ hbI inI0 inI0 inU0 (insR_9 hS b depth (knd b) rfl t2 t7 t8 (by simpa using c2))
    cases hr : rdMust 0 (bs.drop p) p with
    | error er => simp only; rw [onM_err hr]; exact rfl
    | ok r => obtain ⟨u, l1, p1⟩ := r; simp only; rw [onM_ok hr]; exact ⟨rfl, rfl⟩
  have t9 : (knd b == 9) = false := by simpa using c2
  rw [if_neg c2]
  by_cases c3 : b = 65
  · rw [if_pos c3]
    refine insQ_plain ?_ hbI inI0 inI0 (by unfold inU; omega) (insR_65 hS b depth (knd b) rfl t2 t7 t8 t9 (by simpa using c3))
    cases hr : rdSig 32 (bs.drop p) p with
    | error er => simp only; rw [onG_err hr]; exact rfl
    | ok r => obtain ⟨z, l1, p1⟩ := r; simp only; rw [onG_ok hr]; exact ⟨by congr 1; omega, rfl⟩
  have u65 : (b == 65) = false := by simpa using c3
  rw [if_neg c3]
  by_cases c4 : b = 66
  · rw [if_pos c4]
    refine insQ_plain ?_ hbI inI0 inI0 (by unfold inU; omega) (insR_66 hS b depth (knd b) rfl t2 t7 t8 t9 u65 (by simpa using c4))
    cases hr : rdSig 64 (bs.drop p) p with
    | error er => simp only; rw [onG_err hr]; exact rfl
    | ok r => obtain ⟨z, l1, p1⟩ := r; simp only; rw [onG_ok hr]; exact ⟨rfl, rfl⟩
  have u66 : (b == 66) = false := by simpa using c4
  rw [if_neg c4]
  by_cases c5 : b = 14
  · rw [if_pos c5]
    have u14 : (b == 14) = true := by simpa using c5
    cases hr : rdInt (bs.drop p) p with
    | error er => exact insR_14e h b hbI depth (knd b) rfl t2 t7 t8 t9 u65 u66 u14 er (onI_err hr)
    | ok r =>
      obtain ⟨m, l1, p1⟩ := r
      obtain ⟨rfl, -, -⟩ := Adv.dropped (int_got hr).2 hp
      have hm := (num32_iff _).1 (int_got hr).1
      simp only
      by_cases hb : 63 < m
      · rw [if_pos hb]
        exact insR_14b h b hbI depth (knd b) rfl t2 t7 t8 t9 u65 u66 u14 m (p1, n) (onI_ok hr) hb hm.2
      · rw [if_neg hb]
        have hx := insR_14k h b hbI depth (knd b) rfl t2 t7 t8 t9 u65 u66 u14 m.toNat p1 (by rw [onI_ok hr, Int.toNat_of_nonneg hm.1]) (by omega)
        cases hr2 : rdTab (m.toNat + 1) (bs.drop p1) p1 with
        | error er => rw [hr2] at hx; exact hx
        | ok r2 => obtain ⟨L, l2, p2⟩ := r2; rw [hr2] at hx; exact hx
  have u14 : (b == 14) = false := by simpa using c5
  rw [if_neg c5]
  by_cases c6 : b = 17
  · rw [if_pos c6]
    refine insQ_plain ?_ hbI (inI_num (onInt_range _ _)) inI0 inU0 (insR_17 hS b depth (knd b) rfl t2 t7 t8 t9 u65 u66 u14 (by simpa using c6))
    cases hr : rdInt (bs.drop p) p with
    | error er => simp only; rw [onI_err hr]; exact rfl
    | ok r =>
      obtain ⟨x, l1, p1⟩ := r
      obtain ⟨rfl, -, e2⟩ := Adv.dropped (int_got hr).2 hp
      rw [onI_ok hr]
      simp only
      cases hr2 : rdMust 0 (bs.drop p1) p1 with
      | error er => simp only; rw [onM_err hr2]; exact rfl
      | ok r2 => obtain ⟨y, l2, p2⟩ := r2; simp only; rw [onM_ok hr2]; exact ⟨rfl, rfl⟩
  have u17 : (b == 17) = false := by simpa using c6
  rw [if_neg c6]
  by_cases c7 : knd b = 4 ∨ knd b = 6 ∨ b = 12 ∨ b = 13
  · rw [if_pos c7]
    refine insQ_plain ?_ hbI (inI_num (onInt_range _ _)) inI0 inU0 (insR_4 hS b depth (knd b) rfl t2 t7 t8 t9 u65 u66 u14 u17 ?_)
    · cases hr : rdInt (bs.drop p) p with
      | error er => simp only; rw [onI_err hr]; exact rfl
      | ok r => obtain ⟨x, l1, p1⟩ := r; simp only; rw [onI_ok hr]; exact ⟨rfl, rfl⟩
    · have q : ∀ x y : Int, (x == y) = true ↔ x = y := fun x y => by simp
      have q' : ∀ x y : Int, (x == y) = false ↔ x ≠ y := fun x y => by simp
      simp only [q, q']
      omega
  rw [if_neg c7]
  exact insQ_plain ⟨rfl, rfl⟩ hbI inI0 inI0 inU0 (insR_0 hS b depth (knd b) rfl t2 t7 t8 t9 u65 u66 u14 u17 (by simp; omega) (by simp; omega) (by simp; omega) (by simp; omega))
end
end Go.Proofs.YtbhniddgkdldlaaGreatDoor
