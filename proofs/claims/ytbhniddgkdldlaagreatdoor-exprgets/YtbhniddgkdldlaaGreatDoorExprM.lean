/- Plain mathematics of layer 6: what was put is read as it was. No condition; nothing of the program. -/
import Derived.Test.YtbhniddgkdldlaaGreatDoorExprMath
set_option linter.unusedVariables false
set_option linter.unusedSimpArgs false
namespace Go.Proofs.YtbhniddgkdldlaaGreatDoor.Trx
open Go.RowKit

/-- no list of labels is too long. -/
def lsh : Fo → Bool
  | .nil => true
  | .cons _ _ _ _ _ L body els _ next => (decide (L.length ≤ 64) && lsh body && lsh els) && lsh next
/-- each constant is one of 64 bits. -/
def vok : Fo → Prop
  | .nil => True
  | .cons _ _ _ v _ _ body els _ next => (0 ≤ v ∧ v ≤ 18446744073709551615) ∧ vok body ∧ vok els ∧ vok next
theorem up1_eq {x : Int} (h0 : 0 ≤ x) (h : x ≤ 1000) : up1 x = x + 1 := by unfold up1 wrap64; omega
theorem dp_cnt (f : Fo) (h : cnt f ≤ 1000) : dp f ≤ cnt f := by
  induction f with
  | nil => simp [dp, cnt]
  | cons op a b v t L body els he next ih1 ih2 ih3 =>
    simp only [cnt] at h ⊢
    have h1 := ih1 (by omega)
    have h2 := ih2 (by omega)
    have h3 := ih3 (by omega)
    have g1 := dp_nonneg body
    have g2 := dp_nonneg els
    simp only [dp]
    split
    · rw [up1_eq g1 (by omega), up1_eq g2 (by omega)]
      omega
    · omega
theorem isNil_nil {f : Fo} (h : isNil f = true) : f = .nil := by cases f <;> simp [isNil] at h ⊢
theorem kind_read (t : Int) (h : 0 ≤ t ∧ t ≤ 2) (r : List UInt8) (p : Nat) : rdKind (eRes t :: r) p = .ok (t, r, p + 1) := by
  have : t = 0 ∨ t = 1 ∨ t = 2 := by omega
  rcases this with rfl | rfl | rfl <;> rfl

set_option maxHeartbeats 1000000 in
theorem enc_read (f : Fo) : ∀ (fuel depth n : Nat) (e : UInt8) (more : List UInt8) (p : Nat), may f = true → lsh f = true → vok f → n + cnt f ≤ 512 → (depth : Int) + dp f ≤ 32 → (enc f).length < fuel → (e = 11 ∨ e = 5) →
    rdL fuel depth n (enc f ++ e :: more) p = .ok ((f, e.toNat, n + cnt f), more, p + (enc f).length + 1) := by
  induction f with
  | nil =>
    intro fuel depth n e more p _ _ _ _ _ hfu he
    obtain ⟨k, rfl⟩ : ∃ k, fuel = k + 1 := ⟨fuel - 1, by omega⟩
    simp only [enc, List.nil_append, rdL, if_pos he, cnt, Nat.add_zero, List.length_nil]
  | cons op a b v t L body els he next ih1 ih2 ih3 =>
    intro fuel depth n e more p hm hs hv hn hd hfu hee
    obtain ⟨k, rfl⟩ : ∃ k, fuel = k + 1 := ⟨fuel - 1, by omega⟩
    simp only [may, Bool.and_eq_true] at hm
    obtain ⟨⟨⟨hfit, hm1⟩, hm2⟩, hm3⟩ := hm
    simp only [lsh, Bool.and_eq_true, decide_eq_true_eq] at hs
    obtain ⟨⟨⟨hs0, hs1⟩, hs2⟩, hs3⟩ := hs
    obtain ⟨hv0, hv1, hv2, hv3⟩ := hv
    simp only [cnt] at hn
    obtain ⟨h0, h1, h2, h3, h4, h5, h6, h7, h8, h9, h10, h11, h12, h13⟩ := fit_facts hfit
    have hb := b8_nat h0
    have hop := knd_in h0
    obtain ⟨d2, -⟩ := kd_iff op
    rw [← knd_kd h0] at d2
    have hne : ¬ (b8 op = 11 ∨ b8 op = 5) := by
      rintro (h | h)
      · rw [h] at hb
        exact h0 (by rw [← hb]; exact knd_11)
      · rw [h] at hb
        exact h0 (by rw [← hb]; exact knd_5)
    have hblk : knd op = 2 → isBlk op = true := fun h => by unfold isBlk; have := d2.1 h; simp; omega
    have hblk' : isBlk op = true → knd op = 2 := fun h => by unfold isBlk at h; simp at h; exact d2.2 (by omega)
    have g0 := dp_nonneg next
    have g1 := dp_nonneg body
    have g2 := dp_nonneg els
    have c1 := dp_cnt body (by omega)
    have c2 := dp_cnt els (by omega)
    simp only [dp] at hd
    rw [up1_eq g1 (by omega), up1_eq g2 (by omega)] at hd
    have hlim : ¬ (512 ≤ n ∨ (knd op = 2 ∧ 32 ≤ depth)) := by
      rintro (h | ⟨h, h'⟩)
      · omega
      · rw [if_pos (hblk h)] at hd
        omega
    simp only [enc, List.cons_append, rdL, hb]
    rw [if_neg hne, if_neg (by rw [knd_flt h0]; simp), if_neg h0, if_neg hlim]
    simp only [enc, List.length_cons, List.length_append] at hfu
    by_cases hk : knd op = 2
    · rw [if_pos (hblk hk)] at hd
      have ha0 : a = 0 := by
        rcases h1 with h | h
        · exfalso
          have := d2.1 hk
          rcases h with h | h | h | h | h | h <;> omega
        · exact h
      have hb0 : b = 0 := by rcases h2 with h | h; exfalso; omega; exact h
      have hv0' : v = 0 := by rcases h3 with h | h; exfalso; omega; exact h
      have hL0 : L = [] := by rcases h5 with h | h; exfalso; have := d2.1 hk; omega; exact h
      subst ha0 hb0 hv0' hL0
      rw [if_pos hk]
      simp only [eB, if_pos hk, List.cons_append, List.append_assoc] at hfu ⊢
      rw [kind_read t h11]
      simp only
      cases he with
      | true =>
        have h4' : op = 4 := by rcases h7 with h | h; exact h; cases h
        subst h4'
        simp only [if_true, List.cons_append, List.length_cons, List.length_append, List.length_nil] at hfu ⊢
        rw [ih1 k (depth + 1) (n + 1) 5 _ _ hm1 hs1 hv1 (by omega) (by omega) (by omega) (.inr rfl)]
        simp only
        rw [if_pos ⟨rfl, rfl⟩]
        simp only [List.append_assoc, List.cons_append, List.nil_append]
        rw [ih2 k (depth + 1) _ 11 _ _ hm2 hs2 hv2 (by omega) (by omega) (by omega) (.inl rfl)]
        simp only
        rw [if_neg (by decide), ih3 k depth _ e more _ hm3 hs3 hv3 (by omega) (by omega) (by omega) hee]
        simp only [consN, cnt, enc, eB, if_pos hk, if_true, List.length_cons, List.length_append, List.length_nil, Nat.add_assoc]
        first
        | done
        | (congr 3 <;> first | omega | (congr 1; omega))
      | false =>
        have hne2 : els = .nil := by rcases h8 with h | h; cases h; exact isNil_nil h
        subst hne2
        simp only [Bool.false_eq_true, if_false, List.nil_append, List.cons_append, List.length_cons, List.length_append, List.length_nil] at hfu ⊢
        rw [ih1 k (depth + 1) (n + 1) 11 _ _ hm1 hs1 hv1 (by omega) (by omega) (by omega) (.inl rfl)]
        simp only
        rw [if_neg (fun h => absurd h.1 (by decide)), if_neg (by decide), ih3 k depth _ e more _ hm3 hs3 hv3 (by omega) (by omega) (by omega) hee]
        simp only [consN, cnt, enc, eB, if_pos hk, Bool.false_eq_true, if_false, List.nil_append, List.length_cons, List.length_append, List.length_nil, Nat.add_assoc]
        first
        | done
        | (congr 3 <;> first | omega | (congr 1; omega))
    · rw [if_neg (fun h => hk (hblk' h))] at hd
      obtain ⟨hp, hnb, hne2, hhe⟩ := plain_read op a b v t L _ _ he hk hfit hv0 hs0 (enc next ++ e :: more) (p + 1)
      have hbo : body = .nil := isNil_nil hnb
      have hel : els = .nil := isNil_nil hne2
      subst hbo hel hhe
      rw [if_neg hk]
      simp only [eB, if_neg hk, List.append_assoc] at hfu ⊢
      rw [hp]
      simp only
      rw [ih3 k depth _ e more _ hm3 hs3 hv3 (by simp only [cnt] at hn; omega) (by omega) (by omega) hee]
      simp only [consN, cnt, enc, eB, if_neg hk, List.length_cons, List.length_append, Nat.add_assoc]
      first
      | done
      | (congr 3 <;> first | omega | (congr 1; omega))
end Go.Proofs.YtbhniddgkdldlaaGreatDoor.Trx

/- Plain mathematics of layer 6: what is read may be, and its bytes are no more than were read. No condition; nothing of the program. -/
namespace Go.Proofs.YtbhniddgkdldlaaGreatDoor.Leb

theorem uOf_range32 (l : List UInt8) (u n : Nat) (h : uOf l 0 32 = some (u, n)) : u < 4294967296 := by
  unfold uOf at h
  split at h
  · cases h
  · rename_i j hj
    obtain ⟨he, hl⟩ := enc_of_len _ _ _ hj
    obtain ⟨j1, j2, j3, j4⟩ := lenOf_of_some _ _ _ hj
    rw [List.drop_zero] at *
    split at h
    · cases h
    · rename_i hc
      injection h with h
      injection h with e1 e2
      subst e1
      have hlt := joinOf_lt (l.take j)
      rw [hl] at hlt
      refine Nat.lt_of_le_of_lt (Nat.mod_le _ _) ?_
      by_cases h5 : j = 5
      · subst h5
        have hx : l[0 + 5 - 1]?.getD 0 = l[4]'(by omega) := by simp [show 4 < l.length by omega]
        rw [hx] at hc
        have hq : (l[4]'(by omega)).toNat / 2 ^ (32 - 7 * ((32 + 6) / 7 - 1)) = 0 := by
          rcases Nat.eq_zero_or_pos ((l[4]'(by omega)).toNat / 2 ^ (32 - 7 * ((32 + 6) / 7 - 1))) with h | h
          · exact h
          · exact absurd ⟨rfl, by omega⟩ hc
        have h16 : (2 : Nat) ^ (32 - 7 * ((32 + 6) / 7 - 1)) = 16 := by decide
        rw [h16] at hq
        obtain ⟨a1, a2⟩ := joinOf_last l 5 (by omega) (by omega)
        have h28 : (2 : Nat) ^ (7 * (5 - 1)) = 268435456 := by decide
        rw [h28] at a1 a2
        rw [a1]
        have : (l[5 - 1]'(by omega)).toNat = (l[4]'(by omega)).toNat := rfl
        omega
      · have : 2 ^ (7 * j) ≤ 2 ^ 28 := Nat.pow_le_pow_right (by omega) (by omega)
        have h28 : (2 : Nat) ^ 28 = 268435456 := by decide
        omega
theorem sOf_range32 (l : List UInt8) (z : Int) (n : Nat) (h : sOf l 0 32 = some (z, n)) : -2147483648 ≤ z ∧ z < 2147483648 := by
  unfold sOf at h
  split at h
  · cases h
  · rename_i j hj
    obtain ⟨he, hl⟩ := enc_of_len _ _ _ hj
    obtain ⟨j1, j2, j3, j4⟩ := lenOf_of_some _ _ _ hj
    rw [List.drop_zero] at *
    split at h
    · cases h
    · rename_i hc
      injection h with h
      injection h with e1 e2
      subst e1
      have hx : l[0 + j - 1]?.getD 0 = l[j - 1]'(by omega) := by rw [Nat.zero_add]; simp [show j - 1 < l.length by omega]
      rw [hx] at hc ⊢
      by_cases h5 : j = 5
      · subst h5
        have hev : evenB (l[5 - 1]'(by omega)).toNat (32 - 7 * ((32 + 6) / 7 - 1)) = true := by
          cases hq : evenB (l[5 - 1]'(by omega)).toNat (32 - 7 * ((32 + 6) / 7 - 1))
          · exact absurd ⟨rfl, hq⟩ hc
          · rfl
        have h6 : (2 : Nat) ^ (32 - 7 * ((32 + 6) / 7 - 1) - 1) = 8 := by decide
        simp only [evenB, h6, Bool.or_eq_true, beq_iff_eq] at hev
        obtain ⟨a1, a2⟩ := joinOf_last l 5 (by omega) (by omega)
        have h28 : (2 : Nat) ^ (7 * (5 - 1)) = 268435456 := by decide
        have h35 : (2 : Int) ^ (7 * 5) = 34359738368 := by decide
        rw [h28] at a1 a2
        rw [a1, h35]
        split <;> omega
      · have hb := sval_bounds he
        unfold sval at hb
        rw [hl] at hb
        have e : (l.take j)[j - 1]? = l[j - 1]? := by rw [List.getElem?_take, if_pos (by omega)]
        rw [e, List.getElem?_eq_getElem (by omega)] at hb
        simp only [Option.getD_some] at hb
        have : (2 : Int) ^ (7 * j - 1) ≤ 2 ^ 27 := by
          have := Nat.pow_le_pow_right (n := 2) (by omega) (show 7 * j - 1 ≤ 27 by omega)
          exact_mod_cast this
        have h27 : (2 : Int) ^ 27 = 134217728 := by decide
        omega
theorem sOf_range64 (l : List UInt8) (z : Int) (n : Nat) (h : sOf l 0 64 = some (z, n)) : -9223372036854775808 ≤ z ∧ z < 9223372036854775808 := by
  unfold sOf at h
  split at h
  · cases h
  · rename_i j hj
    obtain ⟨he, hl⟩ := enc_of_len _ _ _ hj
    obtain ⟨j1, j2, j3, j4⟩ := lenOf_of_some _ _ _ hj
    rw [List.drop_zero] at *
    split at h
    · cases h
    · rename_i hc
      injection h with h
      injection h with e1 e2
      subst e1
      have hx : l[0 + j - 1]?.getD 0 = l[j - 1]'(by omega) := by rw [Nat.zero_add]; simp [show j - 1 < l.length by omega]
      rw [hx] at hc ⊢
      by_cases h5 : j = 10
      · subst h5
        have hev : evenB (l[10 - 1]'(by omega)).toNat (64 - 7 * ((64 + 6) / 7 - 1)) = true := by
          cases hq : evenB (l[10 - 1]'(by omega)).toNat (64 - 7 * ((64 + 6) / 7 - 1))
          · exact absurd ⟨rfl, hq⟩ hc
          · rfl
        have h6 : (2 : Nat) ^ (64 - 7 * ((64 + 6) / 7 - 1) - 1) = 1 := by decide
        simp only [evenB, h6, Bool.or_eq_true, beq_iff_eq] at hev
        obtain ⟨a1, a2⟩ := joinOf_last l 10 (by omega) (by omega)
        have h28 : (2 : Nat) ^ (7 * (10 - 1)) = 9223372036854775808 := by decide
        have h35 : (2 : Int) ^ (7 * 10) = 1180591620717411303424 := by decide
        rw [h28] at a1 a2
        rw [a1, h35]
        split <;> omega
      · have hb := sval_bounds he
        unfold sval at hb
        rw [hl] at hb
        have e : (l.take j)[j - 1]? = l[j - 1]? := by rw [List.getElem?_take, if_pos (by omega)]
        rw [e, List.getElem?_eq_getElem (by omega)] at hb
        simp only [Option.getD_some] at hb
        have : (2 : Int) ^ (7 * j - 1) ≤ 2 ^ 62 := by
          have := Nat.pow_le_pow_right (n := 2) (by omega) (show 7 * j - 1 ≤ 62 by omega)
          exact_mod_cast this
        have h27 : (2 : Int) ^ 62 = 4611686018427387904 := by decide
        omega
end Go.Proofs.YtbhniddgkdldlaaGreatDoor.Leb

/- Plain mathematics of layer 6: what is read may be, and its bytes are no more than were read. No condition; nothing of the program. -/
namespace Go.Proofs.YtbhniddgkdldlaaGreatDoor.Trx
open Go.RowKit

/-- some bytes were read, at least m. -/
def Adv (l : List UInt8) (p : Nat) (l' : List UInt8) (p' m : Nat) : Prop := ∃ k, p' = p + k ∧ l' = l.drop k ∧ k ≤ l.length ∧ m ≤ k
theorem Adv.trans {l l1 l2 : List UInt8} {p p1 p2 m1 m2 : Nat} (h : Adv l p l1 p1 m1) (h2 : Adv l1 p1 l2 p2 m2) : Adv l p l2 p2 (m1 + m2) := by
  obtain ⟨k, rfl, rfl, h3, h4⟩ := h
  obtain ⟨k2, rfl, rfl, h5, h6⟩ := h2
  rw [List.length_drop] at h5
  exact ⟨k + k2, by omega, by rw [List.drop_drop], by omega, by omega⟩
theorem Adv.mono {l l1 : List UInt8} {p p1 m1 m2 : Nat} (h : Adv l p l1 p1 m1) (hm : m2 ≤ m1) : Adv l p l1 p1 m2 := by
  obtain ⟨k, h1, h2, h3, h4⟩ := h
  exact ⟨k, h1, h2, h3, by omega⟩
theorem Adv.one (b : UInt8) (r : List UInt8) (p : Nat) : Adv (b :: r) p r (p + 1) 1 := ⟨1, rfl, rfl, by simp, by omega⟩
theorem Adv.none_ (l : List UInt8) (p : Nat) : Adv l p l p 0 := ⟨0, rfl, rfl, by omega, by omega⟩
theorem int_got {l l' : List UInt8} {p p' : Nat} {v : Int} (h : rdInt l p = .ok (v, l', p')) : num32 v = true ∧ Adv l p l' p' (eN v).length := by
  unfold rdInt at h
  split at h
  · cases h
  · rename_i u k hu
    injection h with h
    simp only [Prod.mk.injEq] at h
    obtain ⟨rfl, rfl, rfl⟩ := h
    have h1 := Leb.uOf_range32 _ _ _ hu
    obtain ⟨h2, h3⟩ := Leb.uOf_short _ _ _ _ _ (by omega) hu
    have h4 := Leb.uOf_le _ _ _ _ _ hu
    refine ⟨(num32_iff _).2 (by omega), k, rfl, rfl, h4, ?_⟩
    unfold eN
    rw [show ((u : Int) % 18446744073709551616).toNat = u by omega]
    exact h3
theorem must_got {x : UInt8} {l l' : List UInt8} {p p' : Nat} {u : Unit} (h : rdMust x l p = .ok (u, l', p')) : Adv l p l' p' 1 := by
  cases l with
  | nil => simp [rdMust] at h
  | cons b r =>
    simp only [rdMust] at h
    split at h
    · injection h with h
      simp only [Prod.mk.injEq] at h
      obtain ⟨-, rfl, rfl⟩ := h
      exact Adv.one _ _ _
    · cases h
theorem kind_got {l l' : List UInt8} {p p' : Nat} {t : Int} (h : rdKind l p = .ok (t, l', p')) : (0 ≤ t ∧ t ≤ 2) ∧ Adv l p l' p' 1 := by
  cases l with
  | nil => simp [rdKind] at h
  | cons b r =>
    simp only [rdKind] at h
    split at h
    · injection h with h
      simp only [Prod.mk.injEq] at h
      obtain ⟨rfl, rfl, rfl⟩ := h
      exact ⟨by omega, Adv.one _ _ _⟩
    · split at h
      · injection h with h
        simp only [Prod.mk.injEq] at h
        obtain ⟨rfl, rfl, rfl⟩ := h
        exact ⟨by omega, Adv.one _ _ _⟩
      · split at h
        · injection h with h
          simp only [Prod.mk.injEq] at h
          obtain ⟨rfl, rfl, rfl⟩ := h
          exact ⟨by omega, Adv.one _ _ _⟩
        · split at h <;> cases h
theorem tab_got : ∀ (n : Nat) {l l' : List UInt8} {p p' : Nat} {L : List Int}, rdTab n l p = .ok (L, l', p') → L.length = n ∧ L.all num32 = true ∧ Adv l p l' p' (L.flatMap eN).length
  | 0, l, l', p, p', L, h => by
    simp only [rdTab] at h
    injection h with h
    simp only [Prod.mk.injEq] at h
    obtain ⟨rfl, rfl, rfl⟩ := h
    exact ⟨rfl, rfl, Adv.none_ _ _⟩
  | n + 1, l, l', p, p', L, h => by
    simp only [rdTab] at h
    split at h
    · cases h
    · rename_i x l1 p1 hx
      split at h
      · cases h
      · rename_i xs l2 p2 hxs
        injection h with h
        simp only [Prod.mk.injEq] at h
        obtain ⟨rfl, rfl, rfl⟩ := h
        obtain ⟨a1, a2⟩ := int_got hx
        obtain ⟨b1, b2, b3⟩ := tab_got n hxs
        refine ⟨by simp [b1], by simp [a1, b2], ?_⟩
        rw [List.flatMap_cons, List.length_append]
        exact a2.trans b3
theorem sig32_got {l l' : List UInt8} {p p' : Nat} {z : Int} (h : rdSig 32 l p = .ok (z, l', p')) : (0 ≤ z % 4294967296 ∧ z % 4294967296 ≤ 4294967295) ∧ Adv l p l' p' (Leb.putS (s32 (z % 4294967296))).length := by
  unfold rdSig at h
  split at h
  · cases h
  · rename_i u k hu
    injection h with h
    simp only [Prod.mk.injEq] at h
    obtain ⟨rfl, rfl, rfl⟩ := h
    have h1 := Leb.sOf_range32 _ _ _ hu
    obtain ⟨h2, h3⟩ := Leb.sOf_short _ _ _ _ _ hu
    have h4 := Leb.sOf_le _ _ _ _ _ hu
    have e : s32 (u % 4294967296) = u := by unfold s32; split <;> omega
    exact ⟨by omega, k, rfl, rfl, h4, by rw [e]; exact h3⟩
theorem sig64_got {l l' : List UInt8} {p p' : Nat} {z : Int} (h : rdSig 64 l p = .ok (z, l', p')) : (0 ≤ z % 18446744073709551616 ∧ z % 18446744073709551616 ≤ 18446744073709551615) ∧ Adv l p l' p' (Leb.putS (s64 (z % 18446744073709551616))).length := by
  unfold rdSig at h
  split at h
  · cases h
  · rename_i u k hu
    injection h with h
    simp only [Prod.mk.injEq] at h
    obtain ⟨rfl, rfl, rfl⟩ := h
    have h1 := Leb.sOf_range64 _ _ _ hu
    obtain ⟨h2, h3⟩ := Leb.sOf_short _ _ _ _ _ hu
    have h4 := Leb.sOf_le _ _ _ _ _ hu
    have e : s64 (u % 18446744073709551616) = u := by unfold s64; split <;> omega
    exact ⟨by omega, k, rfl, rfl, h4, by rw [e]; exact h3⟩
theorem fit_mk {op a b v t : Int} {L : List Int} {nb ne he : Bool} (h0 : knd op ≠ 0) (h1 : (knd op = 4 ∨ knd op = 6 ∨ op = 12 ∨ op = 13 ∨ knd op = 7 ∨ knd op = 8) ∨ a = 0) (h2 : (knd op = 7 ∨ knd op = 8) ∨ b = 0) (h3 : knd op = 10 ∨ v = 0) (h4 : knd op = 2 ∨ (t = 0 ∧ nb = true)) (h5 : op = 14 ∨ L = []) (h6 : op = 14 → L ≠ [])
    (h7 : op = 4 ∨ he = false) (h8 : he = true ∨ ne = true) (h9 : num32 a = true) (h10 : num32 b = true) (h11 : 0 ≤ t ∧ t ≤ 2) (h12 : op = 65 → v ≤ 4294967295) (h13 : L.all num32 = true) : fit op a b v t L nb ne he = true := by
  simp only [fit, Bool.and_eq_true, Bool.or_eq_true, Bool.not_eq_true', beq_iff_eq, beq_eq_false_iff_ne, decide_eq_true_eq, List.isEmpty_iff, List.isEmpty_eq_false_iff, Bool.and_eq_false_iff, decide_eq_false_iff_not]
  refine ⟨⟨⟨⟨⟨⟨⟨⟨⟨⟨⟨⟨⟨⟨h0, ?_⟩, h2⟩, h3⟩, h4⟩, h5⟩, ?_⟩, h7⟩, h8⟩, h9⟩, h10⟩, h11.1⟩, h11.2⟩, ?_⟩, h13⟩
  · rcases h1 with (h | h | h | h | h | h) | h <;> simp [h]
  · by_cases e : op = 14
    · exact .inr (h6 e)
    · exact .inl e
  · by_cases e : op = 65
    · exact .inr (by have := h12 e; omega)
    · exact .inl e
theorem num_0 : num32 0 = true := rfl
/-- an instruction that is no block. -/
theorem plain_got {op : Int} {l l' : List UInt8} {p p' : Nat} {nd : Nd} (h0 : knd op ≠ 0) (hk : knd op ≠ 2) (h : rdP op l p = .ok (nd, l', p')) :
    ∃ a b v L, nd = ⟨op, a, b, v, 0, L, .nil, .nil, false⟩ ∧ fit op a b v 0 L true true false = true ∧ L.length ≤ 64 ∧ (0 ≤ v ∧ v ≤ 18446744073709551615) ∧ Adv l p l' p' (eP op a b v L).length := by
  obtain ⟨d2, d4, d6, d7, d8, d9, d10⟩ := kd_iff op
  rw [← knd_kd h0] at d2 d4 d6 d7 d8 d9 d10
  unfold rdP at h
  unfold eP
  by_cases c1 : knd op = 7 ∨ knd op = 8
  · rw [if_pos c1] at h
    split at h
    · cases h
    · rename_i a l1 p1 ha
      split at h
      · cases h
      · rename_i b l2 p2 hb
        injection h with h
        simp only [Prod.mk.injEq] at h
        obtain ⟨rfl, rfl, rfl⟩ := h
        obtain ⟨a1, a2⟩ := int_got ha
        obtain ⟨b1, b2⟩ := int_got hb
        refine ⟨a, b, 0, [], rfl, fit_mk h0 (.inl (by omega)) (.inl c1) (.inr rfl) (.inr ⟨rfl, rfl⟩) (.inr rfl) (by omega) (.inr rfl) (.inr rfl) a1 b1 (by omega) (by omega) rfl, by simp, by omega, ?_⟩
        rw [if_pos c1, List.length_append]
        exact a2.trans b2
  rw [if_neg c1] at h
  by_cases c2 : knd op = 9
  · rw [if_pos c2] at h
    split at h
    · cases h
    · rename_i u l1 p1 ha
      injection h with h
      simp only [Prod.mk.injEq] at h
      obtain ⟨rfl, rfl, rfl⟩ := h
      refine ⟨0, 0, 0, [], rfl, fit_mk h0 (.inr rfl) (.inr rfl) (.inr rfl) (.inr ⟨rfl, rfl⟩) (.inr rfl) (by omega) (.inr rfl) (.inr rfl) num_0 num_0 (by omega) (by omega) rfl, by simp, by omega, ?_⟩
      rw [if_neg c1, if_pos c2]
      exact must_got ha
  rw [if_neg c2] at h
  by_cases c3 : op = 65
  · rw [if_pos c3] at h
    split at h
    · cases h
    · rename_i z l1 p1 ha
      injection h with h
      simp only [Prod.mk.injEq] at h
      obtain ⟨rfl, rfl, rfl⟩ := h
      obtain ⟨a1, a2⟩ := sig32_got ha
      refine ⟨0, 0, z % 4294967296, [], rfl, fit_mk h0 (.inr rfl) (.inr rfl) (.inl (by omega)) (.inr ⟨rfl, rfl⟩) (.inr rfl) (by omega) (.inr rfl) (.inr rfl) num_0 num_0 (by omega) (by omega) rfl, by simp, by omega, ?_⟩
      rw [if_neg c1, if_neg c2, if_pos c3]
      exact a2
  rw [if_neg c3] at h
  by_cases c4 : op = 66
  · rw [if_pos c4] at h
    split at h
    · cases h
    · rename_i z l1 p1 ha
      injection h with h
      simp only [Prod.mk.injEq] at h
      obtain ⟨rfl, rfl, rfl⟩ := h
      obtain ⟨a1, a2⟩ := sig64_got ha
      refine ⟨0, 0, z % 18446744073709551616, [], rfl, fit_mk h0 (.inr rfl) (.inr rfl) (.inl (by omega)) (.inr ⟨rfl, rfl⟩) (.inr rfl) (by omega) (.inr rfl) (.inr rfl) num_0 num_0 (by omega) (by omega) rfl, by simp, by omega, ?_⟩
      rw [if_neg c1, if_neg c2, if_neg c3, if_pos c4]
      exact a2
  rw [if_neg c4] at h
  by_cases c5 : op = 14
  · rw [if_pos c5] at h
    split at h
    · cases h
    · rename_i n l1 p1 ha
      split at h
      · cases h
      · rename_i hn
        split at h
        · cases h
        · rename_i L l2 p2 hb
          injection h with h
          simp only [Prod.mk.injEq] at h
          obtain ⟨rfl, rfl, rfl⟩ := h
          obtain ⟨a1, a2⟩ := int_got ha
          obtain ⟨b1, b2, b3⟩ := tab_got _ hb
          have hn0 := (num32_iff n).1 a1
          refine ⟨0, 0, 0, L, rfl, fit_mk h0 (.inr rfl) (.inr rfl) (.inr rfl) (.inr ⟨rfl, rfl⟩) (.inl c5) (fun _ e => by rw [e] at b1; simp at b1) (.inr rfl) (.inr rfl) num_0 num_0 (by omega) (by omega) b2, by omega, by omega, ?_⟩
          rw [if_neg c1, if_neg c2, if_neg c3, if_neg c4, if_pos c5, List.length_append, show (L.length : Int) - 1 = n by omega]
          exact a2.trans b3
  rw [if_neg c5] at h
  by_cases c6 : op = 17
  · rw [if_pos c6] at h
    split at h
    · cases h
    · rename_i a l1 p1 ha
      split at h
      · cases h
      · rename_i u l2 p2 hb
        injection h with h
        simp only [Prod.mk.injEq] at h
        obtain ⟨rfl, rfl, rfl⟩ := h
        obtain ⟨a1, a2⟩ := int_got ha
        refine ⟨a, 0, 0, [], rfl, fit_mk h0 (.inl (by omega)) (.inr rfl) (.inr rfl) (.inr ⟨rfl, rfl⟩) (.inr rfl) (by omega) (.inr rfl) (.inr rfl) a1 num_0 (by omega) (by omega) rfl, by simp, by omega, ?_⟩
        rw [if_neg c1, if_neg c2, if_neg c3, if_neg c4, if_neg c5, if_pos c6, List.length_append]
        exact a2.trans (must_got hb)
  rw [if_neg c6] at h
  by_cases c7 : knd op = 4 ∨ knd op = 6 ∨ op = 12 ∨ op = 13
  · rw [if_pos c7] at h
    split at h
    · cases h
    · rename_i a l1 p1 ha
      injection h with h
      simp only [Prod.mk.injEq] at h
      obtain ⟨rfl, rfl, rfl⟩ := h
      obtain ⟨a1, a2⟩ := int_got ha
      refine ⟨a, 0, 0, [], rfl, fit_mk h0 (.inl (by omega)) (.inr rfl) (.inr rfl) (.inr ⟨rfl, rfl⟩) (.inr rfl) (by omega) (.inr rfl) (.inr rfl) a1 num_0 (by omega) (by omega) rfl, by simp, by omega, ?_⟩
      rw [if_neg c1, if_neg c2, if_neg c3, if_neg c4, if_neg c5, if_neg c6, if_pos c7]
      exact a2
  rw [if_neg c7] at h
  injection h with h
  simp only [Prod.mk.injEq] at h
  obtain ⟨rfl, rfl, rfl⟩ := h
  refine ⟨0, 0, 0, [], rfl, fit_mk h0 (.inr rfl) (.inr rfl) (.inr rfl) (.inr ⟨rfl, rfl⟩) (.inr rfl) (by omega) (.inr rfl) (.inr rfl) num_0 num_0 (by omega) (by omega) rfl, by simp, by omega, ?_⟩
  rw [if_neg c1, if_neg c2, if_neg c3, if_neg c4, if_neg c5, if_neg c6, if_neg c7]
  exact Adv.none_ _ _
end Go.Proofs.YtbhniddgkdldlaaGreatDoor.Trx

/- Plain mathematics of layer 6: the reader as a whole. No condition; nothing of the program. -/
namespace Go.Proofs.YtbhniddgkdldlaaGreatDoor.Trx
open Go.RowKit

/-- what is known of what was read. -/
structure Got (depth n : Nat) (l : List UInt8) (p : Nat) (f : Fo) (last n' : Nat) (l' : List UInt8) (p' : Nat) : Prop where
  may : may f = true
  lsh : lsh f = true
  vok : vok f
  n : n' = n + cnt f
  le : n' ≤ 512
  dp : (depth : Int) + dp f ≤ 32
  last : last = 5 ∨ last = 11
  adv : Adv l p l' p' ((enc f).length + 1)
/-- an instruction in front of others. -/
theorem Got.cons {depth n n2 n3 : Nat} {b : UInt8} {l l2 l3 : List UInt8} {p p2 p3 : Nat} {op a b_ v t : Int} {L : List Int} {body els f : Fo} {he : Bool} {last : Nat} (hg : Got depth n2 l2 p2 f last n3 l3 p3)
    (hfit : fit op a b_ v t L (isNil body) (isNil els) he = true) (m1 : Trx.may body = true) (m2 : Trx.may els = true) (s0 : L.length ≤ 64) (s1 : Trx.lsh body = true) (s2 : Trx.lsh els = true) (v0 : 0 ≤ v ∧ v ≤ 18446744073709551615) (v1 : Trx.vok body) (v2 : Trx.vok els)
    (hn : n2 = n + 1 + cnt body + cnt els) (d1 : (depth : Int) + 1 + Trx.dp body ≤ 32 ∨ isBlk op = false) (d2 : (depth : Int) + 1 + Trx.dp els ≤ 32 ∨ isBlk op = false) (ha : Adv l (p + 1) l2 p2 (eB op a b_ v t L (enc body) (enc els) he).length) :
    Got depth n (b :: l) p (consN ⟨op, a, b_, v, t, L, body, els, he⟩ f) last n3 l3 p3 := by
  have hle := hg.le
  have hn3 := hg.n
  have c1 := dp_cnt body (by omega)
  have c2 := dp_cnt els (by omega)
  have g1 := dp_nonneg body
  have g2 := dp_nonneg els
  have hd := hg.dp
  refine ⟨by simp [consN, Trx.may, hfit, m1, m2, hg.may], by simp [consN, Trx.lsh, s0, s1, s2, hg.lsh], ⟨v0, v1, v2, hg.vok⟩, by simp only [consN, cnt]; omega, hle, ?_, hg.last, ?_⟩
  · simp only [consN, Trx.dp]
    split
    · rename_i hb
      rw [up1_eq g1 (by omega), up1_eq g2 (by omega)]
      rcases d1 with d1 | d1
      · rcases d2 with d2 | d2
        · omega
        · rw [hb] at d2; cases d2
      · rw [hb] at d1; cases d1
    · omega
  · refine (((Adv.one b l p).trans ha).trans hg.adv).mono ?_
    simp only [consN, enc, List.length_cons, List.length_append]
    omega

set_option maxHeartbeats 1000000 in
theorem rdL_got : ∀ (fuel depth n : Nat) (l : List UInt8) (p : Nat) (f : Fo) (last n' : Nat) (l' : List UInt8) (p' : Nat), rdL fuel depth n l p = .ok ((f, last, n'), l', p') → n ≤ 512 → depth ≤ 32 → Got depth n l p f last n' l' p' := by
  intro fuel
  induction fuel with
  | zero => intro depth n l p f last n' l' p' h _ _; simp [rdL] at h
  | succ fuel ih =>
    intro depth n l p f last n' l' p' h hn hd
    cases l with
    | nil => simp [rdL] at h
    | cons b l =>
      simp only [rdL] at h
      split at h
      · rename_i hb
        injection h with h
        simp only [Prod.mk.injEq] at h
        obtain ⟨⟨rfl, rfl, rfl⟩, rfl, rfl⟩ := h
        exact ⟨rfl, rfl, trivial, by simp [cnt], hn, by simp [dp]; omega, by rcases hb with rfl | rfl; exact .inr rfl; exact .inl rfl, Adv.one _ _ _⟩
      · rename_i hb
        split at h
        · cases h
        · rename_i hfl
          split at h
          · cases h
          · rename_i h0
            split at h
            · cases h
            · rename_i hlim
              have h0' : knd ((b.toNat : Nat) : Int) ≠ 0 := h0
              obtain ⟨d2, -⟩ := kd_iff ((b.toNat : Nat) : Int)
              rw [← knd_kd h0'] at d2
              have hblk : isBlk ((b.toNat : Nat) : Int) = true ↔ knd ((b.toNat : Nat) : Int) = 2 := by
                rw [d2]; unfold isBlk; simp
              have hn1 : n + 1 ≤ 512 := by omega
              split at h
              · rename_i hk
                have hd1 : depth + 1 ≤ 32 := by omega
                split at h
                · cases h
                · rename_i t l1 p1 ht
                  obtain ⟨ht1, ht2⟩ := kind_got ht
                  split at h
                  · cases h
                  · rename_i body last1 n2 l2 p2 hbo
                    have g1 := ih (depth + 1) (n + 1) l1 p1 body last1 n2 l2 p2 hbo hn1 hd1
                    have e1 := g1.n
                    have e2 := g1.dp
                    split at h
                    · rename_i hl5
                      split at h
                      · cases h
                      · rename_i els last2 n3 l3 p3 hel
                        have g2 := ih (depth + 1) n2 l2 p2 els last2 n3 l3 p3 hel g1.le hd1
                        have e3 := g2.n
                        have e4 := g2.dp
                        split at h
                        · cases h
                        · split at h
                          · cases h
                          · rename_i f' last' n4 l4 p4 hre
                            injection h with h
                            simp only [Prod.mk.injEq] at h
                            obtain ⟨⟨rfl, rfl, rfl⟩, rfl, rfl⟩ := h
                            have g3 := ih depth n3 l3 p3 f' last' n4 l4 p4 hre g2.le hd
                            have h4 : ((b.toNat : Nat) : Int) = 4 := by rw [hl5.2]; rfl
                            refine g3.cons (fit_mk h0' (.inr rfl) (.inr rfl) (.inr rfl) (.inl hk) (.inr rfl) (by omega) (.inl h4) (.inl rfl) num_0 num_0 ht1 (by omega) rfl) g1.may g2.may (by simp) g1.lsh g2.lsh (by omega) g1.vok g2.vok (by omega) (.inl (by omega)) (.inl (by omega)) ?_
                            refine ((ht2.trans g1.adv).trans g2.adv).mono ?_
                            simp only [eB, if_pos hk, if_true, List.length_cons, List.length_append, List.length_nil]
                            omega
                    · split at h
                      · cases h
                      · split at h
                        · cases h
                        · rename_i f' last' n4 l4 p4 hre
                          injection h with h
                          simp only [Prod.mk.injEq] at h
                          obtain ⟨⟨rfl, rfl, rfl⟩, rfl, rfl⟩ := h
                          have g3 := ih depth n2 l2 p2 f' last' n4 l4 p4 hre g1.le hd
                          refine g3.cons (fit_mk h0' (.inr rfl) (.inr rfl) (.inr rfl) (.inl hk) (.inr rfl) (by omega) (.inr rfl) (.inr rfl) num_0 num_0 ht1 (by omega) rfl) g1.may rfl (by simp) g1.lsh rfl (by omega) g1.vok trivial (by simp only [cnt]; omega) (.inl (by omega)) (.inl (by simp only [dp]; omega)) ?_
                          refine (ht2.trans g1.adv).mono ?_
                          simp only [eB, if_pos hk, Bool.false_eq_true, if_false, List.nil_append, List.length_cons, List.length_append, List.length_nil]
                          omega
              · rename_i hk
                have hnb : isBlk ((b.toNat : Nat) : Int) = false := by
                  cases hq : isBlk ((b.toNat : Nat) : Int)
                  · rfl
                  · exact absurd (hblk.1 hq) hk
                split at h
                · cases h
                · rename_i nd l1 p1 hnd
                  obtain ⟨a, b2, v, L, rfl, hf, hL, hv, hadv⟩ := plain_got h0' hk hnd
                  split at h
                  · cases h
                  · rename_i f' last' n4 l4 p4 hre
                    injection h with h
                    simp only [Prod.mk.injEq] at h
                    obtain ⟨⟨rfl, rfl, rfl⟩, rfl, rfl⟩ := h
                    have g3 := ih depth (n + 1) l1 p1 f' last' n4 l4 p4 hre hn1 hd
                    refine g3.cons hf rfl rfl hL rfl rfl hv trivial trivial (by simp [cnt]) (.inr hnb) (.inr hnb) ?_
                    simp only [eB, if_neg hk]
                    exact hadv

/-- an expression: up to its end. -/
def rdE (l : List UInt8) (p : Nat) : Rs Fo := match rdL (l.length + 1) 0 0 l p with
  | .error e => .error e
  | .ok ((f, last, _), l', p') => if last = 5 then .error (2, p' - 1) else .ok (f, l', p')
/-- what was put is read as it was, whatever stands behind. -/
theorem put_back (f : Fo) (more : List UInt8) (p : Nat) (hm : may f = true) (hs : lsh f = true) (hv : vok f) (hn : cnt f ≤ 512) (hd : dp f ≤ 32) : rdE (enc f ++ 11 :: more) p = .ok (f, more, p + (enc f).length + 1) := by
  unfold rdE
  rw [enc_read f _ 0 0 11 more p hm hs hv (by omega) (by simpa using hd) (by simp; omega) (.inl rfl)]
  rfl
/-- what was read and put is no longer than it was, and is read as it was. -/
theorem get_back {l l' : List UInt8} {p p' : Nat} {f : Fo} (h : rdE l p = .ok (f, l', p')) : may f = true ∧ lsh f = true ∧ vok f ∧ cnt f ≤ 512 ∧ dp f ≤ 32 ∧ p + (enc f).length + 1 ≤ p' ∧ p' ≤ p + l.length ∧ ∀ more q, rdE (enc f ++ 11 :: more) q = .ok (f, more, q + (enc f).length + 1) := by
  unfold rdE at h
  split at h
  · cases h
  · rename_i f' last n l2 p2 hr
    have g := rdL_got _ _ _ _ _ _ _ _ _ _ hr (by omega) (by omega)
    split at h
    · cases h
    · injection h with h
      simp only [Prod.mk.injEq] at h
      obtain ⟨rfl, rfl, rfl⟩ := h
      have h1 := g.n
      have h2 := g.le
      have h3 := g.dp
      obtain ⟨k, hk1, -, hk2, hk3⟩ := g.adv
      refine ⟨g.may, g.lsh, g.vok, by omega, by omega, by omega, by omega, fun more q => put_back f' more q g.may g.lsh g.vok (by omega) (by omega)⟩
end Go.Proofs.YtbhniddgkdldlaaGreatDoor.Trx

/- Plain mathematics of layer 6: the reader round by round, and how long what is put may be. No condition; nothing of the program. -/
namespace Go.Proofs.YtbhniddgkdldlaaGreatDoor.Trx
open Go.RowKit

/-- what is amiss with an operation's byte, ahead of what follows it; 0: nothing. -/
def opChk (depth n : Nat) (b : Int) : Nat := if Opx.flt b then 3 else if knd b = 0 then 2 else if 512 ≤ n ∨ (knd b = 2 ∧ 32 ≤ depth) then 7 else 0
/-- what follows the byte of an operation, and how many were read with it. -/
def rdI (fuel depth n : Nat) (b : Int) (l : List UInt8) (p : Nat) : Rs (Nd × Nat) :=
  if knd b = 2 then match rdKind l p with
    | .error e => .error e
    | .ok (t, l1, p1) => match rdL fuel (depth + 1) n l1 p1 with
      | .error e => .error e
      | .ok ((body, last, n2), l2, p2) =>
        if last = 5 ∧ b = 4 then match rdL fuel (depth + 1) n2 l2 p2 with
          | .error e => .error e
          | .ok ((els, last2, n3), l3, p3) => if last2 = 5 then .error (2, p3 - 1) else .ok ((⟨b, 0, 0, 0, t, [], body, els, true⟩, n3), l3, p3)
        else if last = 5 then .error (2, p2 - 1) else .ok ((⟨b, 0, 0, 0, t, [], body, .nil, false⟩, n2), l2, p2)
  else match rdP b l p with
    | .error e => .error e
    | .ok (nd, l1, p1) => .ok ((nd, n), l1, p1)
/-- with those that were read ahead. -/
def preN (pre : List Nd) : Rs (Fo × Nat × Nat) → Rs (Fo × Nat × Nat)
  | .error e => .error e
  | .ok ((f, last, n), l, p) => .ok ((ofN (pre ++ nds f), last, n), l, p)
theorem preN_nil (r : Rs (Fo × Nat × Nat)) : preN [] r = r := by
  rcases r with e | ⟨⟨f, last, n⟩, l, p⟩ <;> simp [preN]
theorem preN_preN (a b : List Nd) (r : Rs (Fo × Nat × Nat)) : preN a (preN b r) = preN (a ++ b) r := by
  rcases r with e | ⟨⟨f, last, n⟩, l, p⟩ <;> simp [preN]
/-- a round. -/
def stepL (fuel depth n : Nat) (b : UInt8) (l : List UInt8) (p : Nat) : Rs (Fo × Nat × Nat) :=
  if b = 11 ∨ b = 5 then .ok ((.nil, b.toNat, n), l, p + 1)
  else if opChk depth n b.toNat ≠ 0 then .error (opChk depth n b.toNat, p)
  else match rdI fuel depth (n + 1) b.toNat l (p + 1) with
    | .error e => .error e
    | .ok ((nd, n'), l', p') => preN [nd] (rdL fuel depth n' l' p')
theorem rdL_cons (fuel depth n : Nat) (b : UInt8) (l : List UInt8) (p : Nat) : rdL (fuel + 1) depth n (b :: l) p = stepL fuel depth n b l p := by
  have hb4 : ((b.toNat : Int) = 4) ↔ b = 4 := by
    constructor
    · intro h
      have : b.toNat = 4 := by omega
      exact UInt8.toNat_inj.1 (by rw [this]; rfl)
    · rintro rfl; rfl
  have hgo : ∀ (nd : Nd) (n' : Nat) (l' : List UInt8) (p' : Nat), (match rdL fuel depth n' l' p' with
        | .error e => .error e
        | .ok ((f, last, n2), l2, p2) => .ok ((consN nd f, last, n2), l2, p2) : Rs (Fo × Nat × Nat)) = preN [nd] (rdL fuel depth n' l' p') := by
    intro nd n' l' p'
    rcases rdL fuel depth n' l' p' with e | ⟨⟨f, last, n2⟩, l2, p2⟩
    · rfl
    · simp [preN, consN, ofN]
  unfold stepL
  rw [rdL]
  by_cases h1 : b = 11 ∨ b = 5
  · rw [if_pos h1, if_pos h1]
  rw [if_neg h1, if_neg h1]
  by_cases h2 : Opx.flt b.toNat = true
  · have hc : opChk depth n b.toNat = 3 := by simp [opChk, h2]
    rw [hc, if_pos h2, if_pos (by decide)]
  rw [if_neg h2]
  by_cases h3 : knd b.toNat = 0
  · have hc : opChk depth n b.toNat = 2 := by simp [opChk, h2, h3]
    rw [hc, if_pos h3, if_pos (by decide)]
  rw [if_neg h3]
  by_cases h4 : 512 ≤ n ∨ (knd b.toNat = 2 ∧ 32 ≤ depth)
  · have hc : opChk depth n b.toNat = 7 := by simp [opChk, h2, h3, h4]
    rw [hc, if_pos h4, if_pos (by decide)]
  have hc : opChk depth n b.toNat = 0 := by unfold opChk; rw [if_neg h2, if_neg h3, if_neg h4]
  rw [hc, if_neg h4, if_neg (show ¬ (0 : Nat) ≠ 0 by simp)]
  unfold rdI
  by_cases h5 : knd b.toNat = 2
  · rw [if_pos h5, if_pos h5]
    rcases rdKind l (p + 1) with e | ⟨t, l1, p1⟩
    · rfl
    simp only
    rcases rdL fuel (depth + 1) (n + 1) l1 p1 with e | ⟨⟨body, last, n2⟩, l2, p2⟩
    · rfl
    simp only [hb4]
    by_cases h6 : last = 5 ∧ b = 4
    · rw [if_pos h6, if_pos h6]
      rcases rdL fuel (depth + 1) n2 l2 p2 with e | ⟨⟨els, last2, n3⟩, l3, p3⟩
      · rfl
      simp only
      by_cases h7 : last2 = 5
      · rw [if_pos h7, if_pos h7]
      · rw [if_neg h7, if_neg h7]
        exact hgo _ _ _ _
    · rw [if_neg h6, if_neg h6]
      by_cases h7 : last = 5
      · rw [if_pos h7, if_pos h7]
      · rw [if_neg h7, if_neg h7]
        exact hgo _ _ _ _
  · rw [if_neg h5, if_neg h5]
    rcases rdP b.toNat l (p + 1) with e | ⟨nd, l1, p1⟩
    · rfl
    · exact hgo _ _ _ _

end Go.Proofs.YtbhniddgkdldlaaGreatDoor.Trx

/- Plain mathematics of layer 6: how many bytes what is put takes. No condition; nothing of the program. -/
namespace Go.Proofs.YtbhniddgkdldlaaGreatDoor.Trx
open Go.RowKit

/-- how many instructions and labels there are. -/
def wt : Fo → Nat
  | .nil => 0
  | .cons _ _ _ _ _ L body els _ next => 1 + L.length + wt body + wt els + wt next
theorem len_le_wt (f : Fo) : len f ≤ wt f := by
  induction f with
  | nil => simp
  | cons op a b v t L body els he next _ _ ih => simp only [wt, len, nds, List.length_cons] at *; omega
theorem cnt_le_wt (f : Fo) : cnt f ≤ wt f := by
  induction f with
  | nil => simp [cnt]
  | cons op a b v t L body els he next h1 h2 h3 => simp only [wt, cnt]; omega
theorem wt_mem {f : Fo} {n : Nd} (h : n ∈ nds f) : 1 + n.L.length + wt n.body + wt n.els ≤ wt f := by
  induction f with
  | nil => simp [nds] at h
  | cons op a b v t L body els he next _ _ ih =>
    simp only [nds, List.mem_cons] at h
    rcases h with rfl | h
    · simp only [wt]; omega
    · have := ih h
      simp only [wt]; omega
theorem wt_append (l m : List Nd) : wt (ofN (l ++ m)) = wt (ofN l) + wt (ofN m) := by
  induction l with
  | nil => simp [ofN, wt]
  | cons n l ih => simp only [List.cons_append, ofN, wt, ih]; omega
theorem eN_len (n : Int) : (eN n).length ≤ 10 := Leb.putU_len10 (by omega)
theorem flat_len (L : List Int) : (L.flatMap eN).length ≤ 10 * L.length := by
  induction L with
  | nil => simp
  | cons x L ih =>
    have := eN_len x
    simp only [List.flatMap_cons, List.length_append, List.length_cons]
    omega
theorem eP_len (op a b v : Int) (L : List Int) (hv : 0 ≤ v ∧ v ≤ 18446744073709551615) (h65 : op = 65 → v ≤ 4294967295) : (eP op a b v L).length ≤ 20 + 10 * L.length := by
  have ha := eN_len a
  have hb := eN_len b
  have hL := eN_len ((L.length : Int) - 1)
  have hf := flat_len L
  unfold eP
  split
  · simp only [List.length_append]; omega
  split
  · simp only [List.length_singleton]; omega
  split
  · rename_i h
    have := h65 h
    have := Leb.putS_len10 (v := s32 v) (by unfold s32; split <;> omega) (by unfold s32; split <;> omega)
    omega
  split
  · have := Leb.putS_len10 (v := s64 v) (by unfold s64; split <;> omega) (by unfold s64; split <;> omega)
    omega
  split
  · simp only [List.length_append]; omega
  split
  · simp only [List.length_append, List.length_singleton]; omega
  split
  · omega
  · simp
theorem enc_len (f : Fo) : may f = true → vok f → (enc f).length ≤ 24 * wt f := by
  induction f with
  | nil => intros; simp [enc]
  | cons op a b v t L body els he next h1 h2 h3 =>
    intro hm hv
    simp only [may, Bool.and_eq_true] at hm
    obtain ⟨⟨⟨hfit, hm1⟩, hm2⟩, hm3⟩ := hm
    obtain ⟨hv0, hv1, hv2, hv3⟩ := hv
    have q1 := h1 hm1 hv1
    have q2 := h2 hm2 hv2
    have q3 := h3 hm3 hv3
    have hP := eP_len op a b v L hv0 (fit_facts hfit).2.2.2.2.2.2.2.2.2.2.2.2.1
    simp only [enc, wt, List.length_cons, List.length_append, eB]
    split
    · have : ((if he = true then 5 :: enc els else []) : List UInt8).length ≤ 1 + (enc els).length := by
        split <;> simp <;> omega
      simp only [List.length_cons, List.length_append, List.length_nil]
      omega
    · omega
end Go.Proofs.YtbhniddgkdldlaaGreatDoor.Trx
