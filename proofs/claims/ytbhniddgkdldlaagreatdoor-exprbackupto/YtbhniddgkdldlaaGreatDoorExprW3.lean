/- The walk of ExprBack: it returns true, whatever the input; nothing that was there changes. -/
import Derived.Test.YtbhniddgkdldlaaGreatDoorExprUp
import Derived.Test.YtbhniddgkdldlaaGreatDoorExprLong
import Derived.Test.YtbhniddgkdldlaaGreatDoorTreeR10
import Derived.Test.YtbhniddgkdldlaaGreatDoorTreeA
set_option linter.unusedVariables false
set_option linter.unusedSimpArgs false
namespace Go.Proofs.YtbhniddgkdldlaaGreatDoor.Trx
theorem wt_lsh (f : Fo) (h : lsh f = true) : wt f ≤ 65 * cnt f := by
  induction f with
  | nil => simp [wt]
  | cons op a b v t L body els he next h1 h2 h3 =>
    simp only [lsh, Bool.and_eq_true, decide_eq_true_eq] at h
    have := h1 h.1.1.2
    have := h2 h.1.2
    have := h3 h.2
    simp only [wt, cnt]
    omega
end Go.Proofs.YtbhniddgkdldlaaGreatDoor.Trx
namespace Go.Proofs.YtbhniddgkdldlaaGreatDoor
open Go.RowKit Trx

theorem cnt_small3 (f : Fo) (h : wt f ≤ 1048576) : wrap64 (cnt f : Int) = (cnt f : Int) := by
  have := cnt_le_wt f
  unfold wrap64
  omega
set_option maxHeartbeats 8000000 in
set_option maxRecDepth 100000 in
theorem walk_ExprBack (A : Option Addr) (c : Nat) (f : Fo) (Am : Option Addr) (cm : Nat) (more : List UInt8) (Ab : Option Addr) (cb : Nat) (bs : List UInt8) (w : World) (hr : RdS w w.heap.size A f) (hl : len f ≤ c) (hm : c ≤ maxLen)
    (hsm : Sl w w.heap.size Am (u8s more)) (hlm : more.length ≤ cm) (hmm : cm ≤ maxLen) (hsb : Sl w w.heap.size Ab (u8s bs)) (hlb : bs.length ≤ cb) (hmb : cb ≤ maxLen) (hwt : wt f ≤ 1048576) (hN : Nam w) (hE : Et w) :
    Calls Tryz.prog 5 #[.slice A (len f) c, .slice Am more.length cm, .slice Ab bs.length cb] w fun e w' => e = .returned (.bool true) ∧ Below w.heap.size w w' := by
  have hml : len f ≤ maxLen := Nat.le_trans hl hm
  have HU := Lib.hid (up_any w hN hE)
  have HC := Lib.hid (fun w' (h : Below w.heap.size w w') => refCount_any _ f A c w' (Nat.le_refl _) ((hr.below h).more h.size) hml)
  rw [cnt_small3 f hwt] at HC
  have hcs : ((512 : Int) < cnt f) ∨ (¬ (512 : Int) < cnt f ∧ (32 : Int) < dp f) ∨ (¬ (512 : Int) < cnt f ∧ ¬ (32 : Int) < dp f ∧ (1000 : Int) < more.length) ∨ (¬ (512 : Int) < cnt f ∧ ¬ (32 : Int) < dp f ∧ ¬ (1000 : Int) < more.length ∧ (3000 : Int) < bs.length) ∨
      (¬ (512 : Int) < cnt f ∧ ¬ (32 : Int) < dp f ∧ ¬ (1000 : Int) < more.length ∧ ¬ (3000 : Int) < bs.length) := by omega
  have HG : Hid (∀ w', Below w.heap.size w w' → Calls Tryz.prog 13 #[.slice Ab bs.length cb, .int .i64 0] w' (GetP w' (rdE bs 0))) := Lib.hid fun w' h => by
    have := Get_any Ab cb bs 0 w' (hN.below h) ((hsb.below h).more h.size) hlb hmb (Nat.zero_le _)
    rw [List.drop_zero] at this
    exact this
  have HLg := Lib.hid (fun w' (h : Below w.heap.size w w') => Long_any _ f A c w' (Nat.le_refl _) ((hr.below h).more h.size) hml)
  rcases hcs with t1 | ⟨t1, t2⟩ | ⟨t1, t2, t3⟩ | ⟨t1, t2, t3, t4⟩ | ⟨t1, t2, t3, t4⟩
  · go_enter Tryz.func5, Tryz.ntmps5
    go_wp2_with (first
      | (go_at_call 8; (with_reducible refine HU.out.mono ?_); rintro e w1 ⟨rfl, hb1⟩; have HB1 := Lib.hid hb1; clear hb1)
      | (go_at_call 9; (with_reducible refine (HC.out _ HB1.out).mono ?_); rintro e w2 ⟨rfl, rfl⟩))
    go_ret
    exact ⟨rfl, HB1.out⟩
  · go_enter Tryz.func5, Tryz.ntmps5
    go_wp2_with (first
      | (go_at_call 8; (with_reducible refine HU.out.mono ?_); rintro e w1 ⟨rfl, hb1⟩; have HB1 := Lib.hid hb1; clear hb1)
      | (go_at_call 9; (with_reducible refine (HC.out _ HB1.out).mono ?_); rintro e w2 ⟨rfl, rfl⟩))
    go_ret
    exact ⟨rfl, HB1.out⟩
  · go_enter Tryz.func5, Tryz.ntmps5
    go_wp2_with (first
      | (go_at_call 8; (with_reducible refine HU.out.mono ?_); rintro e w1 ⟨rfl, hb1⟩; have HB1 := Lib.hid hb1; clear hb1)
      | (go_at_call 9; (with_reducible refine (HC.out _ HB1.out).mono ?_); rintro e w2 ⟨rfl, rfl⟩))
    go_ret
    exact ⟨rfl, HB1.out⟩
  · go_enter Tryz.func5, Tryz.ntmps5
    go_wp2_with (first
      | (go_at_call 8; (with_reducible refine HU.out.mono ?_); rintro e w1 ⟨rfl, hb1⟩; have HB1 := Lib.hid hb1; clear hb1)
      | (go_at_call 9; (with_reducible refine (HC.out _ HB1.out).mono ?_); rintro e w2 ⟨rfl, rfl⟩))
    go_ret
    exact ⟨rfl, HB1.out⟩
  -- behind the guard
  have HSm := Lib.hid (fun w' (h : Below w.heap.size w w') => hsm.below h)
  have HSI := Lib.hid (fun w' (h : Below w.heap.size w w') A7 c7 (h7 : RdS w' w'.heap.size A7 f) => SameIns_same (cnt f) f A7 A c7 c w' (Nat.le_refl _) h7 ((hr.below h).more h.size) hml)
  obtain ⟨pf, hpf⟩ : ∃ pf, pf = enc f ++ [11] := ⟨_, rfl⟩
  obtain ⟨y, hy⟩ : ∃ y, y = pf ++ more := ⟨_, rfl⟩
  have HYm := Lib.hid hy.symm
  have hmoreN : more.length ≤ 1000 := by omega
  have HG1 : may f = true → lsh f = true → Hid (∀ w' A' c', Below w.heap.size w w' → Sl w' w'.heap.size A' (u8s y) → y.length ≤ c' → c' ≤ maxLen → Calls Tryz.prog 13 #[.slice A' y.length c', .int .i64 0] w' (GetP w' (.ok (f, more, pf.length)))) := fun h1 h2 => Lib.hid fun w' A' c' h hs hlc hmc => by
    have := Get_any A' c' y 0 w' (hN.below h) hs hlc hmc (Nat.zero_le _)
    have e : rdE y 0 = .ok (f, more, pf.length) := by
      rw [hy, hpf, List.append_assoc]
      have := put_back f more 0 h1 h2 hr.vok (by omega) (by omega)
      rw [List.singleton_append, this]
      simp
    rw [List.drop_zero, e] at this
    exact this
  have HPt : may f = true → Hid (∀ w', Below w.heap.size w w' → Calls Tryz.prog 10 #[.slice A (len f) c] w' fun e w'' => ∃ v', e = .returned (.tuple #[v', .nilIface]) ∧ OwB w' w'' v' pf) := fun h1 => Lib.hid fun w' h => by
    rw [hpf]; exact Put_may f A c w' (hN.below h) ((hr.below h).more h.size) hml h1 (by omega)
  have HPn : may f = false → Hid (∀ w', Below w.heap.size w w' → Calls Tryz.prog 10 #[.slice A (len f) c] w' fun e w'' => e = .returned (.tuple #[.slice none 0 0, .iface 32 (.int .i64 1)]) ∧ Below w'.heap.size w' w'') := fun h1 => Lib.hid fun w' h => Put_not f A c w' (hN.below h) ((hr.below h).more h.size) hml h1
  have hlenF : may f = true → pf.length ≤ 30000000 := fun h1 => by have := enc_len f h1 hr.vok; rw [hpf]; simp; omega
  have HNm := Lib.hid (fun w' (h : Below w.heap.size w w') => hN.below h)
  unfold GetP at HG1
  clear hr hsm hsb hN hE hpf hy
  cases hrb : rdE bs 0 with
  | error er =>
    rw [hrb] at HG
    unfold GetP at HG
    cases hmay : may f with
    | false =>
      have HP := HPn hmay
      clear HPn HPt HG1 hlenF hmay hrb
      go_enter Tryz.func5, Tryz.ntmps5
      go_wp2_with (first
        | (go_at_call 8; (with_reducible refine HU.out.mono ?_); rintro e w1 ⟨rfl, hb1⟩; have HB1 := Lib.hid hb1; clear hb1)
        | (go_at_call 9; (with_reducible refine (HC.out _ HB1.out).mono ?_); rintro e w2 ⟨rfl, rfl⟩)
        | (go_at_call 10; (with_reducible refine (HP.out _ HB1.out).mono ?_); rintro e w3 ⟨rfl, hb3⟩; have HB3 := Lib.hid (HB1.out.trans (hb3.mono HB1.out.size)); clear hb3)
        | (go_at_call 17; (with_reducible refine (HLg.out _ HB3.out).mono ?_); rintro e w4 ⟨rfl, rfl⟩)
        | (go_at_call 13; (with_reducible refine (HG.out _ HB3.out).mono ?_); rintro e w10 ⟨v10, rfl, ⟨sb, so, rfl, hs1, hs2⟩, hb10⟩; have HB10 := Lib.hid (HB3.out.trans (hb10.mono HB3.out.size)); clear hs1 hs2 hb10))
      go_ret
      exact ⟨rfl, HB10.out⟩
    | true =>
      have HP := HPt hmay
      have hpl := hlenF hmay
      cases hls : lsh f with
      | false =>
        rw [hls] at HLg
        clear HPn HPt HG1 hlenF hmay hrb hls
        go_enter Tryz.func5, Tryz.ntmps5
        go_wp2_with (first
          | (go_at_call 8; (with_reducible refine HU.out.mono ?_); rintro e w1 ⟨rfl, hb1⟩; have HB1 := Lib.hid hb1; clear hb1)
          | (go_at_call 9; (with_reducible refine (HC.out _ HB1.out).mono ?_); rintro e w2 ⟨rfl, rfl⟩)
          | (go_at_call 10; (with_reducible refine (HP.out _ HB1.out).mono ?_); rintro e w3 ⟨v3, rfl, ho3⟩; obtain ⟨A3, c3, hv3, -, -, hs3⟩ := ho3.form2; subst hv3; have HB3 := Lib.hid (HB1.out.trans (ho3.below.mono HB1.out.size)); have HS3 := Lib.hid hs3; clear ho3 hs3)
          | (go_at_call 17; (with_reducible refine (HLg.out _ HB3.out).mono ?_); rintro e w4 ⟨rfl, rfl⟩)
          | (go_at_call 13; (with_reducible refine (HG.out _ HB3.out).mono ?_); rintro e w10 ⟨v10, rfl, ⟨sb, so, rfl, hs1, hs2⟩, hb10⟩; have HB10 := Lib.hid (HB3.out.trans (hb10.mono HB3.out.size)); clear hs1 hs2 hb10))
        go_ret
        exact ⟨rfl, HB10.out⟩
      | true =>
        rw [hls] at HLg
        have HG1 := HG1 hmay hls
        clear HPn HPt hlenF hmay hrb hls
        go_enter Tryz.func5, Tryz.ntmps5
        go_wp2_with (first
          | (go_at_call 8; (with_reducible refine HU.out.mono ?_); rintro e w1 ⟨rfl, hb1⟩; have HB1 := Lib.hid hb1; clear hb1)
          | (go_at_call 9; (with_reducible refine (HC.out _ HB1.out).mono ?_); rintro e w2 ⟨rfl, rfl⟩)
          | (go_at_call 10; (with_reducible refine (HP.out _ HB1.out).mono ?_); rintro e w3 ⟨v3, rfl, ho3⟩; obtain ⟨A3, c3, hv3, -, -, hs3⟩ := ho3.form2; subst hv3; have HB3 := Lib.hid (HB1.out.trans (ho3.below.mono HB1.out.size)); have HS3 := Lib.hid hs3; clear ho3 hs3)
          | (go_at_call 17; (with_reducible refine (HLg.out _ HB3.out).mono ?_); rintro e w4 ⟨rfl, rfl⟩)
          | (at_builtin; refine wpl_bytes rfl (.tmp 61) (.tmp 62) rfl pf rfl (show OwB w3 _ _ [] from OwnK.lit0' _ _ _ _ (by simp)) rfl (HS3.out.below ((Below.refl _ _).alloc (Nat.le_refl _) _)) rfl (by simp only [List.length_nil]; omega) ?_; intro v5 w5 ho5 hk5; rw [List.nil_append] at ho5; have HO5 := Lib.hid ho5; have HB5 := Lib.hid (HB3.out.trans (ho5.below.mono HB3.out.size)); clear ho5 hk5)
          | (at_builtin; refine wpl_bytes rfl (.tmp 63) (.tmp 64) rfl more rfl HO5.out rfl (HSm.out _ HB5.out) rfl (by omega) ?_; intro v6 w6 ho6 hk6; rw [HYm.out] at ho6; obtain ⟨A6, c6, hv6, hl6, hm6, hs6⟩ := ho6.form2; subst hv6; have HB6 := Lib.hid (HB3.out.trans (ho6.below.mono HB3.out.size)); have HS6 := Lib.hid hs6; clear ho6 hk6 hs6)
          | (go_at_call 13; (with_reducible refine (HG1.out _ _ _ HB6.out HS6.out hl6 hm6).mono ?_); rintro e w7 ⟨A7, c7, rfl, l7, m7, nf7, hb7⟩; have HB7 := Lib.hid (HB6.out.trans (hb7.mono HB6.out.size)); have HR7 := Lib.hid nf7.get; clear nf7 hb7)
          | (go_at_call 16; (with_reducible refine (HSI.out _ HB7.out _ c7 HR7.out).mono ?_); rintro e w8 ⟨rfl, hb8⟩; have HB8 := Lib.hid (HB7.out.trans (hb8.mono HB7.out.size)); clear hb8)
          | (go_at_call 13; (with_reducible refine (HG.out _ HB8.out).mono ?_); rintro e w10 ⟨v10, rfl, ⟨sb, so, rfl, hs1, hs2⟩, hb10⟩; have HB10 := Lib.hid (HB8.out.trans (hb10.mono HB8.out.size)); clear hs1 hs2 hb10))
        go_ret
        exact ⟨rfl, HB10.out⟩
  | ok r =>
    obtain ⟨k, l', p'⟩ := r
    obtain ⟨km, kl, kv, kc, kd, kp, -, kb⟩ := get_back hrb
    obtain ⟨q, hq⟩ : ∃ q, q = enc k ++ [11] := ⟨_, rfl⟩
    have kw := wt_lsh k kl
    have hqp : q.length ≤ p' := by rw [hq]; simp; omega
    have tqp : (q.length : Int) ≤ (p' : Int) := by omega
    have HPk : Hid (∀ w' A' c', Below w.heap.size w w' → RdS w' w'.heap.size A' k → len k ≤ maxLen → Calls Tryz.prog 10 #[.slice A' (len k) c'] w' fun e w'' => ∃ v', e = .returned (.tuple #[v', .nilIface]) ∧ OwB w' w'' v' q) := Lib.hid fun w' A' c' h hrk hlk => by
      rw [hq]; exact Put_may k A' c' w' (HNm.out w' h) hrk hlk km (by omega)
    have HGq : Hid (∀ w' A' c', Below w.heap.size w w' → Sl w' w'.heap.size A' (u8s q) → q.length ≤ c' → c' ≤ maxLen → Calls Tryz.prog 13 #[.slice A' q.length c', .int .i64 0] w' (GetP w' (.ok (k, [], q.length)))) := Lib.hid fun w' A' c' h hs hlc hmc => by
      have := Get_any A' c' q 0 w' (HNm.out w' h) hs hlc hmc (Nat.zero_le _)
      have e : rdE q 0 = .ok (k, [], q.length) := by
        rw [hq, kb [] 0]
        simp
      rw [List.drop_zero, e] at this
      exact this
    have HSk := Lib.hid (fun w' A' A'' c' c'' (h1 : RdS w' w'.heap.size A' k) (h2 : RdS w' w'.heap.size A'' k) (hlk : len k ≤ maxLen) => SameIns_same (cnt k) k A' A'' c' c'' w' (Nat.le_refl _) h1 h2 hlk)
    rw [hrb] at HG
    unfold GetP at HG HGq
    clear km kl kv kc kd kp kb hq kw hqp hrb
    cases hmay : may f with
    | false =>
      have HP := HPn hmay
      clear HPn HPt HG1 hlenF hmay
      go_enter Tryz.func5, Tryz.ntmps5
      go_wp2_with (first
        | (go_at_call 8; (with_reducible refine HU.out.mono ?_); rintro e w1 ⟨rfl, hb1⟩; have HB1 := Lib.hid hb1; clear hb1)
        | (go_at_call 9; (with_reducible refine (HC.out _ HB1.out).mono ?_); rintro e w2 ⟨rfl, rfl⟩)
        | (go_at_call 10; (with_reducible refine (HP.out _ HB1.out).mono ?_); rintro e w3 ⟨rfl, hb3⟩; have HB3 := Lib.hid (HB1.out.trans (hb3.mono HB1.out.size)); clear hb3)
        | (go_at_call 17; (with_reducible refine (HLg.out _ HB3.out).mono ?_); rintro e w4 ⟨rfl, rfl⟩)
        | (go_at_call 13; (with_reducible refine (HG.out _ HB3.out).mono ?_); rintro e w10 ⟨A10, c10, rfl, l10, m10, nf10, hb10⟩; have HB10 := Lib.hid (HB3.out.trans (hb10.mono HB3.out.size)); have HR10 := Lib.hid nf10.get; have hl10 := Nat.le_trans l10 m10; have HL10 := Lib.hid hl10; clear nf10 hb10 hl10)
        | (go_at_call 10; (with_reducible refine (HPk.out _ _ c10 HB10.out HR10.out HL10.out).mono ?_); rintro e w11 ⟨v11, rfl, ho11⟩; obtain ⟨A11, c11, hv11, hl11, hm11, hs11⟩ := ho11.form2; subst hv11; have HB11 := Lib.hid (HB10.out.trans (ho11.below.mono HB10.out.size)); have HR11 := Lib.hid ((HR10.out.below ho11.below).more ho11.below.size); have HS11 := Lib.hid hs11; clear ho11 hs11)
        | (go_at_call 13; (with_reducible refine (HGq.out _ _ _ HB11.out HS11.out hl11 hm11).mono ?_); rintro e w12 ⟨A12, c12, rfl, l12, m12, nf12, hb12⟩; have HB12 := Lib.hid (HB11.out.trans (hb12.mono HB11.out.size)); have HR12 := Lib.hid nf12.get; have HR12k := Lib.hid ((HR11.out.below hb12).more hb12.size); clear nf12 hb12)
        | (go_at_call 16; (with_reducible refine (HSk.out _ _ _ c12 c10 HR12.out HR12k.out HL10.out).mono ?_); rintro e w13 ⟨rfl, hb13⟩; have HB13 := Lib.hid (HB12.out.trans (hb13.mono HB12.out.size)); clear hb13))
      go_ret
      exact ⟨rfl, HB13.out⟩
    | true =>
      have HP := HPt hmay
      have hpl := hlenF hmay
      cases hls : lsh f with
      | false =>
        rw [hls] at HLg
        clear HPn HPt HG1 hlenF hmay hls
        go_enter Tryz.func5, Tryz.ntmps5
        go_wp2_with (first
          | (go_at_call 8; (with_reducible refine HU.out.mono ?_); rintro e w1 ⟨rfl, hb1⟩; have HB1 := Lib.hid hb1; clear hb1)
          | (go_at_call 9; (with_reducible refine (HC.out _ HB1.out).mono ?_); rintro e w2 ⟨rfl, rfl⟩)
          | (go_at_call 10; (with_reducible refine (HP.out _ HB1.out).mono ?_); rintro e w3 ⟨v3, rfl, ho3⟩; obtain ⟨A3, c3, hv3, -, -, hs3⟩ := ho3.form2; subst hv3; have HB3 := Lib.hid (HB1.out.trans (ho3.below.mono HB1.out.size)); have HS3 := Lib.hid hs3; clear ho3 hs3)
          | (go_at_call 17; (with_reducible refine (HLg.out _ HB3.out).mono ?_); rintro e w4 ⟨rfl, rfl⟩)
          | (go_at_call 13; (with_reducible refine (HG.out _ HB3.out).mono ?_); rintro e w10 ⟨A10, c10, rfl, l10, m10, nf10, hb10⟩; have HB10 := Lib.hid (HB3.out.trans (hb10.mono HB3.out.size)); have HR10 := Lib.hid nf10.get; have hl10 := Nat.le_trans l10 m10; have HL10 := Lib.hid hl10; clear nf10 hb10 hl10)
          | (go_at_call 10; (with_reducible refine (HPk.out _ _ c10 HB10.out HR10.out HL10.out).mono ?_); rintro e w11 ⟨v11, rfl, ho11⟩; obtain ⟨A11, c11, hv11, hl11, hm11, hs11⟩ := ho11.form2; subst hv11; have HB11 := Lib.hid (HB10.out.trans (ho11.below.mono HB10.out.size)); have HR11 := Lib.hid ((HR10.out.below ho11.below).more ho11.below.size); have HS11 := Lib.hid hs11; clear ho11 hs11)
          | (go_at_call 13; (with_reducible refine (HGq.out _ _ _ HB11.out HS11.out hl11 hm11).mono ?_); rintro e w12 ⟨A12, c12, rfl, l12, m12, nf12, hb12⟩; have HB12 := Lib.hid (HB11.out.trans (hb12.mono HB11.out.size)); have HR12 := Lib.hid nf12.get; have HR12k := Lib.hid ((HR11.out.below hb12).more hb12.size); clear nf12 hb12)
          | (go_at_call 16; (with_reducible refine (HSk.out _ _ _ c12 c10 HR12.out HR12k.out HL10.out).mono ?_); rintro e w13 ⟨rfl, hb13⟩; have HB13 := Lib.hid (HB12.out.trans (hb13.mono HB12.out.size)); clear hb13))
        go_ret
        exact ⟨rfl, HB13.out⟩
      | true =>
        rw [hls] at HLg
        have HG1 := HG1 hmay hls
        clear HPn HPt hlenF hmay hls
        go_enter Tryz.func5, Tryz.ntmps5
        go_wp2_with (first
          | (go_at_call 8; (with_reducible refine HU.out.mono ?_); rintro e w1 ⟨rfl, hb1⟩; have HB1 := Lib.hid hb1; clear hb1)
          | (go_at_call 9; (with_reducible refine (HC.out _ HB1.out).mono ?_); rintro e w2 ⟨rfl, rfl⟩)
          | (go_at_call 10; (with_reducible refine (HP.out _ HB1.out).mono ?_); rintro e w3 ⟨v3, rfl, ho3⟩; obtain ⟨A3, c3, hv3, -, -, hs3⟩ := ho3.form2; subst hv3; have HB3 := Lib.hid (HB1.out.trans (ho3.below.mono HB1.out.size)); have HS3 := Lib.hid hs3; clear ho3 hs3)
          | (go_at_call 17; (with_reducible refine (HLg.out _ HB3.out).mono ?_); rintro e w4 ⟨rfl, rfl⟩)
          | (at_builtin; refine wpl_bytes rfl (.tmp 61) (.tmp 62) rfl pf rfl (show OwB w3 _ _ [] from OwnK.lit0' _ _ _ _ (by simp)) rfl (HS3.out.below ((Below.refl _ _).alloc (Nat.le_refl _) _)) rfl (by simp only [List.length_nil]; omega) ?_; intro v5 w5 ho5 hk5; rw [List.nil_append] at ho5; have HO5 := Lib.hid ho5; have HB5 := Lib.hid (HB3.out.trans (ho5.below.mono HB3.out.size)); clear ho5 hk5)
          | (at_builtin; refine wpl_bytes rfl (.tmp 63) (.tmp 64) rfl more rfl HO5.out rfl (HSm.out _ HB5.out) rfl (by omega) ?_; intro v6 w6 ho6 hk6; rw [HYm.out] at ho6; obtain ⟨A6, c6, hv6, hl6, hm6, hs6⟩ := ho6.form2; subst hv6; have HB6 := Lib.hid (HB3.out.trans (ho6.below.mono HB3.out.size)); have HS6 := Lib.hid hs6; clear ho6 hk6 hs6)
          | (go_at_call 13; (with_reducible refine (HG1.out _ _ _ HB6.out HS6.out hl6 hm6).mono ?_); rintro e w7 ⟨A7, c7, rfl, l7, m7, nf7, hb7⟩; have HB7 := Lib.hid (HB6.out.trans (hb7.mono HB6.out.size)); have HR7 := Lib.hid nf7.get; clear nf7 hb7)
          | (go_at_call 16; (with_reducible refine (HSI.out _ HB7.out _ c7 HR7.out).mono ?_); rintro e w8 ⟨rfl, hb8⟩; have HB8 := Lib.hid (HB7.out.trans (hb8.mono HB7.out.size)); clear hb8)
          | (go_at_call 13; (with_reducible refine (HG.out _ HB8.out).mono ?_); rintro e w10 ⟨A10, c10, rfl, l10, m10, nf10, hb10⟩; have HB10 := Lib.hid (HB8.out.trans (hb10.mono HB8.out.size)); have HR10 := Lib.hid nf10.get; have hl10 := Nat.le_trans l10 m10; have HL10 := Lib.hid hl10; clear nf10 hb10 hl10)
          | (go_at_call 10; (with_reducible refine (HPk.out _ _ c10 HB10.out HR10.out HL10.out).mono ?_); rintro e w11 ⟨v11, rfl, ho11⟩; obtain ⟨A11, c11, hv11, hl11, hm11, hs11⟩ := ho11.form2; subst hv11; have HB11 := Lib.hid (HB10.out.trans (ho11.below.mono HB10.out.size)); have HR11 := Lib.hid ((HR10.out.below ho11.below).more ho11.below.size); have HS11 := Lib.hid hs11; clear ho11 hs11)
          | (go_at_call 13; (with_reducible refine (HGq.out _ _ _ HB11.out HS11.out hl11 hm11).mono ?_); rintro e w12 ⟨A12, c12, rfl, l12, m12, nf12, hb12⟩; have HB12 := Lib.hid (HB11.out.trans (hb12.mono HB11.out.size)); have HR12 := Lib.hid nf12.get; have HR12k := Lib.hid ((HR11.out.below hb12).more hb12.size); clear nf12 hb12)
          | (go_at_call 16; (with_reducible refine (HSk.out _ _ _ c12 c10 HR12.out HR12k.out HL10.out).mono ?_); rintro e w13 ⟨rfl, hb13⟩; have HB13 := Lib.hid (HB12.out.trans (hb13.mono HB12.out.size)); clear hb13))
        go_ret
        exact ⟨rfl, HB13.out⟩
end Go.Proofs.YtbhniddgkdldlaaGreatDoor
