/- The contract of grommetref03.two. -/
import Derived.Test.YtdenmbigdklhkaaDoorRefC
import Derived.Test.YtdenmbigdklhkaaDoorRefE32a
import Derived.Test.YtdenmbigdklhkaaDoorRefE32b
import Derived.Test.YtdenmbigdklhkaaDoorRefE64a
import Derived.Test.YtdenmbigdklhkaaDoorRefE64b
namespace Go.Proofs.YtdenmbigdklhkaaDoor
open Go.RowKit

theorem bit01f (a : Int) (k : Nat) : a / 2 ^ k % 2 = 0 ∨ a / 2 ^ k % 2 = 1 := by omega
theorem rot_range (N k : Nat) (a : Int) (hk : k ≤ N) (h0 : 0 ≤ a) (h1 : a < 2 ^ N) : 0 ≤ Num.rot N a k ∧ Num.rot N a k < 2 ^ N := by
  obtain ⟨x, rfl⟩ := Int.eq_ofNat_of_zero_le h0
  have c : (2 : Int) ^ N = ((2 ^ N : Nat) : Int) := by simp
  have hx : x < 2 ^ N := by omega
  rw [Num.rot_cast]
  have h2 := Num.rotN_lt N k x hk hx
  omega

theorem bit_and (x y j : Nat) : (x &&& y) / 2 ^ j % 2 = (x / 2 ^ j % 2) &&& (y / 2 ^ j % 2) := by
  have h := Nat.and_mod_two_pow (a := x / 2 ^ j) (b := y / 2 ^ j) (n := 1)
  rw [Nat.and_div_two_pow]
  simpa using h
theorem bit_or (x y j : Nat) : (x ||| y) / 2 ^ j % 2 = (x / 2 ^ j % 2) ||| (y / 2 ^ j % 2) := by
  have h := Nat.or_mod_two_pow (a := x / 2 ^ j) (b := y / 2 ^ j) (n := 1)
  rw [Nat.or_div_two_pow]
  simpa using h
theorem bit_xor (x y j : Nat) : (x ^^^ y) / 2 ^ j % 2 = (x / 2 ^ j % 2) ^^^ (y / 2 ^ j % 2) := by
  have h := Nat.xor_mod_two_pow (a := x / 2 ^ j) (b := y / 2 ^ j) (n := 1)
  rw [Nat.xor_div_two_pow]
  simpa using h
theorem cmb_bit (i : Nat) (a b : Int) (n : Nat) (h0 : 0 ≤ a) (h1 : 0 ≤ b) (hi : i = 7 ∨ i = 8 ∨ i = 9) (j : Nat) (u v : Nat) (hu : a / 2 ^ j % 2 = u) (hv : b / 2 ^ j % 2 = v) :
    Num.cmbV i n a b / 2 ^ j % 2 = if i = 7 then ((u &&& v : Nat) : Int) else if i = 8 then ((u ||| v : Nat) : Int) else ((u ^^^ v : Nat) : Int) := by
  obtain ⟨x, rfl⟩ := Int.eq_ofNat_of_zero_le h0
  obtain ⟨y, rfl⟩ := Int.eq_ofNat_of_zero_le h1
  have hu' : x / 2 ^ j % 2 = u := by
    have : (x : Int) / 2 ^ j % 2 = ((x / 2 ^ j % 2 : Nat) : Int) := by simp
    omega
  have hv' : y / 2 ^ j % 2 = v := by
    have : (y : Int) / 2 ^ j % 2 = ((y / 2 ^ j % 2 : Nat) : Int) := by simp
    omega
  have cast : ∀ r : Nat, (r : Int) / 2 ^ j % 2 = ((r / 2 ^ j % 2 : Nat) : Int) := fun r => by simp
  rcases hi with rfl | rfl | rfl
  · show (((x &&& y : Nat) : Int)) / 2 ^ j % 2 = ((u &&& v : Nat) : Int)
    rw [cast, bit_and, hu', hv']
  · show (((x ||| y : Nat) : Int)) / 2 ^ j % 2 = ((u ||| v : Nat) : Int)
    rw [cast, bit_or, hu', hv']
  · show (((x ^^^ y : Nat) : Int)) / 2 ^ j % 2 = ((u ^^^ v : Nat) : Int)
    rw [cast, bit_xor, hu', hv']

theorem rshift32 (o : Int) (i : Nat) (a : Int) (k : Nat) (w : World) (ho : o = i) (hi : i < 5) (ha : 0 ≤ a ∧ a < 4294967296) (hk : k < 32) :
    Calls Tryd.prog 42 #[.int .i64 o, .int .u64 a, .int .i64 k, .int .i64 32] w fun e w' => e = .returned (.int .u64 (Num.shfV i 32 a k)) ∧ w = w' := by
  have hl : i = 0 ∨ i = 1 ∨ i = 2 ∨ i = 3 ∨ i = 4 := by omega
  have hp : (0 : Int) < 2 ^ k := Int.pow_pos (by decide)
  subst ho
  rcases hl with rfl | rfl | rfl | rfl | rfl
  · have e : Num.shfV 0 32 a k = a * 2 ^ k % 2 ^ 32 := rfl
    rw [e]
    exact rsh0_32 a _ k w ha hk (by constructor; exact Int.emod_nonneg _ (by decide); exact Int.emod_lt_of_pos _ (by decide)) (fun j hj => Num.s0 32 k a ha.1 j hj)
  · have e : Num.shfV 1 32 a k = Num.sg 32 a / 2 ^ k % 2 ^ 32 := rfl
    rw [e]
    refine rsh1_32 a _ k w ha hk (by constructor; exact Int.emod_nonneg _ (by decide); exact Int.emod_lt_of_pos _ (by decide)) (fun j hj => ?_)
    rw [Num.sg32]
    by_cases h : a < 2147483648
    · rw [if_pos h]
      have h2 : 0 ≤ a / 2 ^ k := Int.ediv_nonneg ha.1 (Int.le_of_lt hp)
      have h3 : a / 2 ^ k ≤ a := Int.ediv_le_self _ ha.1
      rw [Int.emod_eq_of_lt h2 (by simp; omega), Num.s2 32 k a ha.1 ha.2 j]
      split
      · rfl
      · have : a / 2 ^ (32 - 1) = 0 := Int.ediv_eq_zero_of_lt ha.1 h
        rw [this]; rfl
    · rw [if_neg h]
      have hn := Num.s1n 32 k a ha.1 ha.2 hk j hj
      rw [show (2 : Int) ^ 32 = 4294967296 from rfl] at hn
      rw [show (2 : Int) ^ 32 = 4294967296 from rfl, hn]
      split
      · rfl
      · show (1 : Int) = a / 2147483648 % 2
        omega
  · have e : Num.shfV 2 32 a k = a / 2 ^ k := rfl
    rw [e]
    have h2 : 0 ≤ a / 2 ^ k := Int.ediv_nonneg ha.1 (Int.le_of_lt hp)
    have h3 : a / 2 ^ k ≤ a := Int.ediv_le_self _ ha.1
    exact rsh2_32 a _ k w ha hk (by omega) (fun j _ => Num.s2 32 k a ha.1 ha.2 j)
  · have e : Num.shfV 3 32 a k = Num.rot 32 a k := rfl
    rw [e]
    exact rsh3_32 a _ k w ha hk (rot_range 32 k a (by omega) ha.1 ha.2) (fun j hj => Num.s3 32 k a ha.1 ha.2 (by omega) j hj)
  · have e : Num.shfV 4 32 a k = Num.rot 32 a (32 - k) := rfl
    rw [e]
    refine rsh4_32 a _ k w ha hk (rot_range 32 (32 - k) a (by omega) ha.1 ha.2) (fun j hj => ?_)
    rw [Num.s3 32 (32 - k) a ha.1 ha.2 (by omega) j hj]
    by_cases h : j + k < 32
    · rw [if_pos h, if_pos (by omega), show 32 - (32 - k) + j = j + k by omega]
    · rw [if_neg h, if_neg (by omega), show j - (32 - k) = j + k - 32 by omega]

set_option maxHeartbeats 8000000 in
set_option maxRecDepth 100000 in
theorem rtwoB32 (o : Int) (i : Nat) (a b : Int) (w : World) (ho : o = i) (hi : i = 7 ∨ i = 8 ∨ i = 9) (ha : 0 ≤ a ∧ a < 4294967296) (hb : 0 ≤ b ∧ b < 4294967296) :
    Calls Tryd.prog 24 #[.int .i64 o, .int .u64 a, .int .u64 b, .int .i64 32] w fun e w' => e = .returned (.tuple #[.int .u64 (Num.cmbV i 32 a b), .int .i64 0]) ∧ w = w' := by
  have HA := Lib.hid (fun (k : Nat) w (h : k < 64) => rbit_any a k w ha.1 (by omega) h)
  have HB := Lib.hid (fun (k : Nat) w (h : k < 64) => rbit_any b k w hb.1 (by omega) h)
  have HU := Lib.hid (fun b w => rtruth_any b w)
  have hR : 0 ≤ Num.cmbV i 32 a b ∧ Num.cmbV i 32 a b < 4294967296 := by
    have l1 : a.toNat &&& b.toNat < 2 ^ 32 := Nat.and_lt_two_pow _ (by omega)
    have l2 : a.toNat ||| b.toNat < 2 ^ 32 := Nat.or_lt_two_pow (by omega) (by omega)
    have l3 : a.toNat ^^^ b.toNat < 2 ^ 32 := Nat.xor_lt_two_pow (by omega) (by omega)
    rcases hi with rfl | rfl | rfl
    · show 0 ≤ ((a.toNat &&& b.toNat : Nat) : Int) ∧ ((a.toNat &&& b.toNat : Nat) : Int) < 4294967296; omega
    · show 0 ≤ ((a.toNat ||| b.toNat : Nat) : Int) ∧ ((a.toNat ||| b.toNat : Nat) : Int) < 4294967296; omega
    · show 0 ≤ ((a.toNat ^^^ b.toNat : Nat) : Int) ∧ ((a.toNat ^^^ b.toNat : Nat) : Int) < 4294967296; omega
  have HC := Lib.hid (fun (j u v : Nat) => cmb_bit i a b 32 ha.1 hb.1 hi j u v)
  obtain ⟨R, hRR⟩ : ∃ R, R = Num.cmbV i 32 a b := ⟨_, rfl⟩
  rw [← hRR] at hR HC ⊢
  have HS := Lib.hid (fun (x : Int) (j : Nat) (hj : j < 64) (hx : x = R / 2 ^ j % 2) => Num.or_step_i R x j hR.1 (by omega) hj hx)
  have HE := Lib.hid (show R % 2 ^ 32 = R from Int.emod_eq_of_lt hR.1 hR.2)
  have HR := Lib.hid (fun j => mod_range R j hR.1)
  have H0 := Lib.hid (show R % 2 ^ 0 = 0 by simp [Int.emod_one])
  have HQ := Lib.hid hR
  clear ha hb hR hRR
  rcases hi with rfl | rfl | rfl
  · have ho' : o = 7 := ho
    subst ho'
    clear ho
    go_enter Tryd.func24, Tryd.ntmps24
    go_wp2
    go_loop [13, 14] (fun c i => ∃ j : Nat, j ≤ 32 ∧ i = .int .i64 j ∧ c = .int .u64 (R % 2 ^ j)) (fun _ i => 32 - (intOf i).toNat)
    case atStart => exact ⟨0, Nat.zero_le _, rfl, by rw [H0.out]⟩
    case round =>
      obtain ⟨j, hj, rfl, rfl⟩ := hrel
      by_cases hlt : j < 32
      · have hr := HR.out j
        have hs := fun x hx => HS.out x j (by omega) hx
        have hq := HQ.out
        obtain ⟨o, ho⟩ : ∃ o, o = R % 2 ^ j := ⟨_, rfl⟩
        rw [← ho] at hs hr ⊢
        have o0 : 0 ≤ o := hr.1
        have o1 : o < 18446744073709551616 := by omega
        clear hr hq
        have XA := Lib.hid (fun w => HA.out j w (by omega))
        have XB := Lib.hid (fun w => HB.out j w (by omega))
        rcases bit01f a j with hu | hu <;> rcases bit01f b j with hv | hv
        all_goals
          first
            | have ht := HC.out j 0 0 hu hv
            | have ht := HC.out j 0 1 hu hv
            | have ht := HC.out j 1 0 hu hv
            | have ht := HC.out j 1 1 hu hv
          simp only [hu, hv] at XA XB
          simp at ht
          have Hs := Lib.hid (hs _ ht.symm)
          clear hs ht ho hu hv
          go_wp2_with (first | (go_at_call 37; first | (with_reducible refine (XA.out _).mono ?_; rintro e w' ⟨rfl, rfl⟩) | (with_reducible refine (XB.out _).mono ?_; rintro e w' ⟨rfl, rfl⟩)) | (go_at_call 20; with_reducible refine (HU.out _ _).mono ?_; rintro e w' ⟨rfl, rfl⟩))
          go_round
          case rel => exact ⟨j + 1, by omega, by go_num, by rw [← Hs.out]; rfl⟩
          case measure => simp [intOf]; omega
      · have hj' : j = 32 := by omega
        subst hj'
        rw [HE.out]
        go_wp2
        go_ret2
        exact ⟨rfl, rfl⟩
  · have ho' : o = 8 := ho
    subst ho'
    clear ho
    go_enter Tryd.func24, Tryd.ntmps24
    go_wp2
    go_loop [13, 14] (fun c i => ∃ j : Nat, j ≤ 32 ∧ i = .int .i64 j ∧ c = .int .u64 (R % 2 ^ j)) (fun _ i => 32 - (intOf i).toNat)
    case atStart => exact ⟨0, Nat.zero_le _, rfl, by rw [H0.out]⟩
    case round =>
      obtain ⟨j, hj, rfl, rfl⟩ := hrel
      by_cases hlt : j < 32
      · have hr := HR.out j
        have hs := fun x hx => HS.out x j (by omega) hx
        have hq := HQ.out
        obtain ⟨o, ho⟩ : ∃ o, o = R % 2 ^ j := ⟨_, rfl⟩
        rw [← ho] at hs hr ⊢
        have o0 : 0 ≤ o := hr.1
        have o1 : o < 18446744073709551616 := by omega
        clear hr hq
        have XA := Lib.hid (fun w => HA.out j w (by omega))
        have XB := Lib.hid (fun w => HB.out j w (by omega))
        rcases bit01f a j with hu | hu <;> rcases bit01f b j with hv | hv
        all_goals
          first
            | have ht := HC.out j 0 0 hu hv
            | have ht := HC.out j 0 1 hu hv
            | have ht := HC.out j 1 0 hu hv
            | have ht := HC.out j 1 1 hu hv
          simp only [hu, hv] at XA XB
          simp at ht
          have Hs := Lib.hid (hs _ ht.symm)
          clear hs ht ho hu hv
          go_wp2_with (first | (go_at_call 37; first | (with_reducible refine (XA.out _).mono ?_; rintro e w' ⟨rfl, rfl⟩) | (with_reducible refine (XB.out _).mono ?_; rintro e w' ⟨rfl, rfl⟩)) | (go_at_call 20; with_reducible refine (HU.out _ _).mono ?_; rintro e w' ⟨rfl, rfl⟩))
          go_round
          case rel => exact ⟨j + 1, by omega, by go_num, by rw [← Hs.out]; rfl⟩
          case measure => simp [intOf]; omega
      · have hj' : j = 32 := by omega
        subst hj'
        rw [HE.out]
        go_wp2
        go_ret2
        exact ⟨rfl, rfl⟩
  · have ho' : o = 9 := ho
    subst ho'
    clear ho
    go_enter Tryd.func24, Tryd.ntmps24
    go_wp2
    go_loop [13, 14] (fun c i => ∃ j : Nat, j ≤ 32 ∧ i = .int .i64 j ∧ c = .int .u64 (R % 2 ^ j)) (fun _ i => 32 - (intOf i).toNat)
    case atStart => exact ⟨0, Nat.zero_le _, rfl, by rw [H0.out]⟩
    case round =>
      obtain ⟨j, hj, rfl, rfl⟩ := hrel
      by_cases hlt : j < 32
      · have hr := HR.out j
        have hs := fun x hx => HS.out x j (by omega) hx
        have hq := HQ.out
        obtain ⟨o, ho⟩ : ∃ o, o = R % 2 ^ j := ⟨_, rfl⟩
        rw [← ho] at hs hr ⊢
        have o0 : 0 ≤ o := hr.1
        have o1 : o < 18446744073709551616 := by omega
        clear hr hq
        have XA := Lib.hid (fun w => HA.out j w (by omega))
        have XB := Lib.hid (fun w => HB.out j w (by omega))
        rcases bit01f a j with hu | hu <;> rcases bit01f b j with hv | hv
        all_goals
          first
            | have ht := HC.out j 0 0 hu hv
            | have ht := HC.out j 0 1 hu hv
            | have ht := HC.out j 1 0 hu hv
            | have ht := HC.out j 1 1 hu hv
          simp only [hu, hv] at XA XB
          simp at ht
          have Hs := Lib.hid (hs _ ht.symm)
          clear hs ht ho hu hv
          go_wp2_with (first | (go_at_call 37; first | (with_reducible refine (XA.out _).mono ?_; rintro e w' ⟨rfl, rfl⟩) | (with_reducible refine (XB.out _).mono ?_; rintro e w' ⟨rfl, rfl⟩)) | (go_at_call 20; with_reducible refine (HU.out _ _).mono ?_; rintro e w' ⟨rfl, rfl⟩))
          go_round
          case rel => exact ⟨j + 1, by omega, by go_num, by rw [← Hs.out]; rfl⟩
          case measure => simp [intOf]; omega
      · have hj' : j = 32 := by omega
        subst hj'
        rw [HE.out]
        go_wp2
        go_ret2
        exact ⟨rfl, rfl⟩

theorem rshift64 (o : Int) (i : Nat) (a : Int) (k : Nat) (w : World) (ho : o = i) (hi : i < 5) (ha : 0 ≤ a ∧ a < 18446744073709551616) (hk : k < 64) :
    Calls Tryd.prog 42 #[.int .i64 o, .int .u64 a, .int .i64 k, .int .i64 64] w fun e w' => e = .returned (.int .u64 (Num.shfV i 64 a k)) ∧ w = w' := by
  have hl : i = 0 ∨ i = 1 ∨ i = 2 ∨ i = 3 ∨ i = 4 := by omega
  have hp : (0 : Int) < 2 ^ k := Int.pow_pos (by decide)
  subst ho
  rcases hl with rfl | rfl | rfl | rfl | rfl
  · have e : Num.shfV 0 64 a k = a * 2 ^ k % 2 ^ 64 := rfl
    rw [e]
    exact rsh0_64 a _ k w ha hk (by constructor; exact Int.emod_nonneg _ (by decide); exact Int.emod_lt_of_pos _ (by decide)) (fun j hj => Num.s0 64 k a ha.1 j hj)
  · have e : Num.shfV 1 64 a k = Num.sg 64 a / 2 ^ k % 2 ^ 64 := rfl
    rw [e]
    refine rsh1_64 a _ k w ha hk (by constructor; exact Int.emod_nonneg _ (by decide); exact Int.emod_lt_of_pos _ (by decide)) (fun j hj => ?_)
    rw [Num.sg64]
    by_cases h : a < 9223372036854775808
    · rw [if_pos h]
      have h2 : 0 ≤ a / 2 ^ k := Int.ediv_nonneg ha.1 (Int.le_of_lt hp)
      have h3 : a / 2 ^ k ≤ a := Int.ediv_le_self _ ha.1
      rw [Int.emod_eq_of_lt h2 (by simp; omega), Num.s2 64 k a ha.1 ha.2 j]
      split
      · rfl
      · have : a / 2 ^ (64 - 1) = 0 := Int.ediv_eq_zero_of_lt ha.1 h
        rw [this]; rfl
    · rw [if_neg h]
      have hn := Num.s1n 64 k a ha.1 ha.2 hk j hj
      rw [show (2 : Int) ^ 64 = 18446744073709551616 from rfl] at hn
      rw [show (2 : Int) ^ 64 = 18446744073709551616 from rfl, hn]
      split
      · rfl
      · show (1 : Int) = a / 9223372036854775808 % 2
        omega
  · have e : Num.shfV 2 64 a k = a / 2 ^ k := rfl
    rw [e]
    have h2 : 0 ≤ a / 2 ^ k := Int.ediv_nonneg ha.1 (Int.le_of_lt hp)
    have h3 : a / 2 ^ k ≤ a := Int.ediv_le_self _ ha.1
    exact rsh2_64 a _ k w ha hk (by omega) (fun j _ => Num.s2 64 k a ha.1 ha.2 j)
  · have e : Num.shfV 3 64 a k = Num.rot 64 a k := rfl
    rw [e]
    exact rsh3_64 a _ k w ha hk (rot_range 64 k a (by omega) ha.1 ha.2) (fun j hj => Num.s3 64 k a ha.1 ha.2 (by omega) j hj)
  · have e : Num.shfV 4 64 a k = Num.rot 64 a (64 - k) := rfl
    rw [e]
    refine rsh4_64 a _ k w ha hk (rot_range 64 (64 - k) a (by omega) ha.1 ha.2) (fun j hj => ?_)
    rw [Num.s3 64 (64 - k) a ha.1 ha.2 (by omega) j hj]
    by_cases h : j + k < 64
    · rw [if_pos h, if_pos (by omega), show 64 - (64 - k) + j = j + k by omega]
    · rw [if_neg h, if_neg (by omega), show j - (64 - k) = j + k - 64 by omega]

set_option maxHeartbeats 8000000 in
set_option maxRecDepth 100000 in
theorem rtwoB64 (o : Int) (i : Nat) (a b : Int) (w : World) (ho : o = i) (hi : i = 7 ∨ i = 8 ∨ i = 9) (ha : 0 ≤ a ∧ a < 18446744073709551616) (hb : 0 ≤ b ∧ b < 18446744073709551616) :
    Calls Tryd.prog 24 #[.int .i64 o, .int .u64 a, .int .u64 b, .int .i64 64] w fun e w' => e = .returned (.tuple #[.int .u64 (Num.cmbV i 64 a b), .int .i64 0]) ∧ w = w' := by
  have HA := Lib.hid (fun (k : Nat) w (h : k < 64) => rbit_any a k w ha.1 (by omega) h)
  have HB := Lib.hid (fun (k : Nat) w (h : k < 64) => rbit_any b k w hb.1 (by omega) h)
  have HU := Lib.hid (fun b w => rtruth_any b w)
  have hR : 0 ≤ Num.cmbV i 64 a b ∧ Num.cmbV i 64 a b < 18446744073709551616 := by
    have l1 : a.toNat &&& b.toNat < 2 ^ 64 := Nat.and_lt_two_pow _ (by omega)
    have l2 : a.toNat ||| b.toNat < 2 ^ 64 := Nat.or_lt_two_pow (by omega) (by omega)
    have l3 : a.toNat ^^^ b.toNat < 2 ^ 64 := Nat.xor_lt_two_pow (by omega) (by omega)
    rcases hi with rfl | rfl | rfl
    · show 0 ≤ ((a.toNat &&& b.toNat : Nat) : Int) ∧ ((a.toNat &&& b.toNat : Nat) : Int) < 18446744073709551616; omega
    · show 0 ≤ ((a.toNat ||| b.toNat : Nat) : Int) ∧ ((a.toNat ||| b.toNat : Nat) : Int) < 18446744073709551616; omega
    · show 0 ≤ ((a.toNat ^^^ b.toNat : Nat) : Int) ∧ ((a.toNat ^^^ b.toNat : Nat) : Int) < 18446744073709551616; omega
  have HC := Lib.hid (fun (j u v : Nat) => cmb_bit i a b 64 ha.1 hb.1 hi j u v)
  obtain ⟨R, hRR⟩ : ∃ R, R = Num.cmbV i 64 a b := ⟨_, rfl⟩
  rw [← hRR] at hR HC ⊢
  have HS := Lib.hid (fun (x : Int) (j : Nat) (hj : j < 64) (hx : x = R / 2 ^ j % 2) => Num.or_step_i R x j hR.1 (by omega) hj hx)
  have HE := Lib.hid (show R % 2 ^ 64 = R from Int.emod_eq_of_lt hR.1 hR.2)
  have HR := Lib.hid (fun j => mod_range R j hR.1)
  have H0 := Lib.hid (show R % 2 ^ 0 = 0 by simp [Int.emod_one])
  have HQ := Lib.hid hR
  clear ha hb hR hRR
  rcases hi with rfl | rfl | rfl
  · have ho' : o = 7 := ho
    subst ho'
    clear ho
    go_enter Tryd.func24, Tryd.ntmps24
    go_wp2
    go_loop [13, 14] (fun c i => ∃ j : Nat, j ≤ 64 ∧ i = .int .i64 j ∧ c = .int .u64 (R % 2 ^ j)) (fun _ i => 64 - (intOf i).toNat)
    case atStart => exact ⟨0, Nat.zero_le _, rfl, by rw [H0.out]⟩
    case round =>
      obtain ⟨j, hj, rfl, rfl⟩ := hrel
      by_cases hlt : j < 64
      · have hr := HR.out j
        have hs := fun x hx => HS.out x j (by omega) hx
        have hq := HQ.out
        obtain ⟨o, ho⟩ : ∃ o, o = R % 2 ^ j := ⟨_, rfl⟩
        rw [← ho] at hs hr ⊢
        have o0 : 0 ≤ o := hr.1
        have o1 : o < 18446744073709551616 := by omega
        clear hr hq
        have XA := Lib.hid (fun w => HA.out j w (by omega))
        have XB := Lib.hid (fun w => HB.out j w (by omega))
        rcases bit01f a j with hu | hu <;> rcases bit01f b j with hv | hv
        all_goals
          first
            | have ht := HC.out j 0 0 hu hv
            | have ht := HC.out j 0 1 hu hv
            | have ht := HC.out j 1 0 hu hv
            | have ht := HC.out j 1 1 hu hv
          simp only [hu, hv] at XA XB
          simp at ht
          have Hs := Lib.hid (hs _ ht.symm)
          clear hs ht ho hu hv
          go_wp2_with (first | (go_at_call 37; first | (with_reducible refine (XA.out _).mono ?_; rintro e w' ⟨rfl, rfl⟩) | (with_reducible refine (XB.out _).mono ?_; rintro e w' ⟨rfl, rfl⟩)) | (go_at_call 20; with_reducible refine (HU.out _ _).mono ?_; rintro e w' ⟨rfl, rfl⟩))
          go_round
          case rel => exact ⟨j + 1, by omega, by go_num, by rw [← Hs.out]; rfl⟩
          case measure => simp [intOf]; omega
      · have hj' : j = 64 := by omega
        subst hj'
        rw [HE.out]
        go_wp2
        go_ret2
        exact ⟨rfl, rfl⟩
  · have ho' : o = 8 := ho
    subst ho'
    clear ho
    go_enter Tryd.func24, Tryd.ntmps24
    go_wp2
    go_loop [13, 14] (fun c i => ∃ j : Nat, j ≤ 64 ∧ i = .int .i64 j ∧ c = .int .u64 (R % 2 ^ j)) (fun _ i => 64 - (intOf i).toNat)
    case atStart => exact ⟨0, Nat.zero_le _, rfl, by rw [H0.out]⟩
    case round =>
      obtain ⟨j, hj, rfl, rfl⟩ := hrel
      by_cases hlt : j < 64
      · have hr := HR.out j
        have hs := fun x hx => HS.out x j (by omega) hx
        have hq := HQ.out
        obtain ⟨o, ho⟩ : ∃ o, o = R % 2 ^ j := ⟨_, rfl⟩
        rw [← ho] at hs hr ⊢
        have o0 : 0 ≤ o := hr.1
        have o1 : o < 18446744073709551616 := by omega
        clear hr hq
        have XA := Lib.hid (fun w => HA.out j w (by omega))
        have XB := Lib.hid (fun w => HB.out j w (by omega))
        rcases bit01f a j with hu | hu <;> rcases bit01f b j with hv | hv
        all_goals
          first
            | have ht := HC.out j 0 0 hu hv
            | have ht := HC.out j 0 1 hu hv
            | have ht := HC.out j 1 0 hu hv
            | have ht := HC.out j 1 1 hu hv
          simp only [hu, hv] at XA XB
          simp at ht
          have Hs := Lib.hid (hs _ ht.symm)
          clear hs ht ho hu hv
          go_wp2_with (first | (go_at_call 37; first | (with_reducible refine (XA.out _).mono ?_; rintro e w' ⟨rfl, rfl⟩) | (with_reducible refine (XB.out _).mono ?_; rintro e w' ⟨rfl, rfl⟩)) | (go_at_call 20; with_reducible refine (HU.out _ _).mono ?_; rintro e w' ⟨rfl, rfl⟩))
          go_round
          case rel => exact ⟨j + 1, by omega, by go_num, by rw [← Hs.out]; rfl⟩
          case measure => simp [intOf]; omega
      · have hj' : j = 64 := by omega
        subst hj'
        rw [HE.out]
        go_wp2
        go_ret2
        exact ⟨rfl, rfl⟩
  · have ho' : o = 9 := ho
    subst ho'
    clear ho
    go_enter Tryd.func24, Tryd.ntmps24
    go_wp2
    go_loop [13, 14] (fun c i => ∃ j : Nat, j ≤ 64 ∧ i = .int .i64 j ∧ c = .int .u64 (R % 2 ^ j)) (fun _ i => 64 - (intOf i).toNat)
    case atStart => exact ⟨0, Nat.zero_le _, rfl, by rw [H0.out]⟩
    case round =>
      obtain ⟨j, hj, rfl, rfl⟩ := hrel
      by_cases hlt : j < 64
      · have hr := HR.out j
        have hs := fun x hx => HS.out x j (by omega) hx
        have hq := HQ.out
        obtain ⟨o, ho⟩ : ∃ o, o = R % 2 ^ j := ⟨_, rfl⟩
        rw [← ho] at hs hr ⊢
        have o0 : 0 ≤ o := hr.1
        have o1 : o < 18446744073709551616 := by omega
        clear hr hq
        have XA := Lib.hid (fun w => HA.out j w (by omega))
        have XB := Lib.hid (fun w => HB.out j w (by omega))
        rcases bit01f a j with hu | hu <;> rcases bit01f b j with hv | hv
        all_goals
          first
            | have ht := HC.out j 0 0 hu hv
            | have ht := HC.out j 0 1 hu hv
            | have ht := HC.out j 1 0 hu hv
            | have ht := HC.out j 1 1 hu hv
          simp only [hu, hv] at XA XB
          simp at ht
          have Hs := Lib.hid (hs _ ht.symm)
          clear hs ht ho hu hv
          go_wp2_with (first | (go_at_call 37; first | (with_reducible refine (XA.out _).mono ?_; rintro e w' ⟨rfl, rfl⟩) | (with_reducible refine (XB.out _).mono ?_; rintro e w' ⟨rfl, rfl⟩)) | (go_at_call 20; with_reducible refine (HU.out _ _).mono ?_; rintro e w' ⟨rfl, rfl⟩))
          go_round
          case rel => exact ⟨j + 1, by omega, by go_num, by rw [← Hs.out]; rfl⟩
          case measure => simp [intOf]; omega
      · have hj' : j = 64 := by omega
        subst hj'
        rw [HE.out]
        go_wp2
        go_ret2
        exact ⟨rfl, rfl⟩

end Go.Proofs.YtdenmbigdklhkaaDoor
