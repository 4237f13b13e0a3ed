/- Plain mathematics of layer 3: the bits of a number, counted byte by byte as math/bits does. -/
import Derived.Test.YtdenmbigdklhkaaDoorNumMath
import Derived.Laws.BitsAllLaws
namespace Go.Proofs.YtdenmbigdklhkaaDoor.Num
open Go.RowKit

theorem ones_add (m : Nat) : ∀ (n a : Nat), ones (m + n) a = ones m a + ones n (a / 2 ^ m)
  | 0, a => by simp [ones]
  | n + 1, a => by
    show ones (m + n) a + a / 2 ^ (m + n) % 2 = ones m a + (ones n (a / 2 ^ m) + a / 2 ^ m / 2 ^ n % 2)
    rw [ones_add m n a, Nat.div_div_eq_div_mul, ← Nat.pow_add]
    omega
theorem ones8_mod (a : Nat) : ones 8 a = ones 8 (a % 256) := by
  simp only [ones]
  omega
theorem ones_byte (n a : Nat) : ones (8 + n) a = ones 8 (a % 256) + ones n (a / 256) := by
  rw [ones_add 8 n a, ← ones8_mod]
theorem ones_le : ∀ (n a : Nat), ones n a ≤ n
  | 0, _ => Nat.le_refl _
  | n + 1, a => by
    have h := ones_le n a
    show ones n a + a / 2 ^ n % 2 ≤ n + 1
    omega

theorem and_byte (x y : Nat) : x &&& y = ((x % 256) &&& (y % 256)) + 256 * ((x / 256) &&& (y / 256)) := by
  have h1 : (x &&& y) % 2 ^ 8 = (x % 2 ^ 8) &&& (y % 2 ^ 8) := Nat.and_mod_two_pow
  have h2 : (x &&& y) / 2 ^ 8 = (x / 2 ^ 8) &&& (y / 2 ^ 8) := Nat.and_div_two_pow
  have h3 := Nat.div_add_mod (x &&& y) (2 ^ 8)
  rw [h1, h2] at h3
  simp only [Nat.reducePow] at h3
  omega

/-- byte by byte. -/
def mapB (f : Nat → Nat) : Nat → Nat → Nat
  | 0, _ => 0
  | k + 1, x => f (x % 256) + 256 * mapB f k (x / 256)
/-- a byte, k times. -/
def rep (c : Nat) : Nat → Nat
  | 0 => 0
  | k + 1 => c + 256 * rep c k

theorem rep_mod (c k : Nat) (hc : c < 256) : rep c (k + 1) % 256 = c := by
  show (c + 256 * rep c k) % 256 = c
  omega
theorem rep_div (c k : Nat) (hc : c < 256) : rep c (k + 1) / 256 = rep c k := by
  show (c + 256 * rep c k) / 256 = rep c k
  omega
theorem and_rep (x c k : Nat) (hc : c < 256) : x &&& rep c (k + 1) = ((x % 256) &&& c) + 256 * ((x / 256) &&& rep c k) := by
  rw [and_byte, rep_mod c k hc, rep_div c k hc]

theorem mapB_mod (f : Nat → Nat) (k x : Nat) (hf : f (x % 256) < 256) : mapB f (k + 1) x % 256 = f (x % 256) := by
  show (f (x % 256) + 256 * mapB f k (x / 256)) % 256 = _
  omega
theorem mapB_div (f : Nat → Nat) (k x : Nat) (hf : f (x % 256) < 256) : mapB f (k + 1) x / 256 = mapB f k (x / 256) := by
  show (f (x % 256) + 256 * mapB f k (x / 256)) / 256 = _
  omega
theorem mapB_comp (f g : Nat → Nat) (hf : ∀ r, r < 256 → f r < 256) : ∀ k x, mapB g k (mapB f k x) = mapB (fun r => g (f r)) k x
  | 0, _ => rfl
  | k + 1, x => by
    have h := hf (x % 256) (Nat.mod_lt _ (by decide))
    show g (mapB f (k + 1) x % 256) + 256 * mapB g k (mapB f (k + 1) x / 256) = g (f (x % 256)) + 256 * mapB (fun r => g (f r)) k (x / 256)
    rw [mapB_mod f k x h, mapB_div f k x h, mapB_comp f g hf k]
theorem mapB_lt (f : Nat → Nat) (hf : ∀ r, r < 256 → f r < 256) : ∀ k x, mapB f k x < 256 ^ k
  | 0, _ => by simp [mapB]
  | k + 1, x => by
    have h := hf (x % 256) (Nat.mod_lt _ (by decide))
    have h2 := mapB_lt f hf k (x / 256)
    show f (x % 256) + 256 * mapB f k (x / 256) < 256 ^ (k + 1)
    rw [Nat.pow_succ]
    omega
theorem mapB_congr (f g : Nat → Nat) (h : ∀ r, r < 256 → f r = g r) : ∀ k x, mapB f k x = mapB g k x
  | 0, _ => rfl
  | k + 1, x => by
    show f (x % 256) + _ = g (x % 256) + _
    rw [h _ (Nat.mod_lt _ (by decide)), mapB_congr f g h k]

def g1 (r : Nat) : Nat := ((r / 2) &&& 85) + (r &&& 85)
def g2 (r : Nat) : Nat := ((r / 4) &&& 51) + (r &&& 51)
def g3 (r : Nat) : Nat := r % 16 + r / 16

theorem byte1 : ∀ t : Fin 512, ((t.val / 2) % 256 &&& 85) = ((t.val % 256) / 2 &&& 85) := by decide +kernel
theorem byte2 : ∀ t : Fin 1024, ((t.val / 4) % 256 &&& 51) = ((t.val % 256) / 4 &&& 51) := by decide +kernel
theorem g1_lt : ∀ r : Fin 256, g1 r.val < 256 := by decide +kernel
theorem g2_ok : ∀ r : Fin 256, g2 (g1 r.val) < 256 ∧ g2 (g1 r.val) % 16 ≤ 4 ∧ g2 (g1 r.val) / 16 ≤ 4 := by decide +kernel
theorem g3_eq : ∀ r : Fin 256, g3 (g2 (g1 r.val)) = ones 8 r.val := by decide +kernel

theorem step1 : ∀ k x, ((x / 2) &&& rep 85 k) + (x &&& rep 85 k) = mapB g1 k x
  | 0, x => by simp [rep, mapB]
  | k + 1, x => by
    have h := step1 k (x / 256)
    have hb := byte1 ⟨x % 512, Nat.mod_lt _ (by decide)⟩
    simp only at hb
    rw [show x % 512 / 2 % 256 = x / 2 % 256 by omega, show x % 512 % 256 = x % 256 by omega] at hb
    rw [and_rep _ _ _ (by decide), and_rep _ _ _ (by decide), show x / 2 / 256 = x / 256 / 2 by omega, hb]
    show _ = g1 (x % 256) + 256 * mapB g1 k (x / 256)
    unfold g1 at h ⊢
    omega
theorem step2 : ∀ k x, ((x / 4) &&& rep 51 k) + (x &&& rep 51 k) = mapB g2 k x
  | 0, x => by simp [rep, mapB]
  | k + 1, x => by
    have h := step2 k (x / 256)
    have hb := byte2 ⟨x % 1024, Nat.mod_lt _ (by decide)⟩
    simp only at hb
    rw [show x % 1024 / 4 % 256 = x / 4 % 256 by omega, show x % 1024 % 256 = x % 256 by omega] at hb
    rw [and_rep _ _ _ (by decide), and_rep _ _ _ (by decide), show x / 4 / 256 = x / 256 / 4 by omega, hb]
    show _ = g2 (x % 256) + 256 * mapB g2 k (x / 256)
    unfold g2 at h ⊢
    omega

/-- both halves of each byte are at most 4. -/
def small4 : Nat → Nat → Prop
  | 0, _ => True
  | k + 1, x => (x % 16 ≤ 4 ∧ x / 16 % 16 ≤ 4) ∧ small4 k (x / 256)
theorem small4_map : ∀ k x, small4 k (mapB (fun r => g2 (g1 r)) k x)
  | 0, _ => trivial
  | k + 1, x => by
    obtain ⟨h0, h1, h2⟩ := g2_ok ⟨x % 256, Nat.mod_lt _ (by decide)⟩
    simp only at h0 h1 h2
    refine ⟨?_, ?_⟩
    · show (g2 (g1 (x % 256)) + 256 * mapB (fun r => g2 (g1 r)) k (x / 256)) % 16 ≤ 4 ∧ (g2 (g1 (x % 256)) + 256 * mapB (fun r => g2 (g1 r)) k (x / 256)) / 16 % 16 ≤ 4
      omega
    · rw [mapB_div (fun r => g2 (g1 r)) k x h0]
      exact small4_map k (x / 256)
theorem and15 (y : Nat) : (y % 256) &&& 15 = y % 16 := by
  have h := Nat.and_two_pow_sub_one_eq_mod (y % 256) 4
  rw [show 2 ^ 4 - 1 = 15 from rfl] at h
  rw [h]
  omega
theorem top4 : ∀ k x, small4 k x → x < 256 ^ k → x ≤ rep 68 k
  | 0, x, _, h => by simp at h; simp [rep, h]
  | k + 1, x, ⟨⟨h1, h2⟩, h3⟩, h => by
    have hq := top4 k (x / 256) h3 (by rw [Nat.pow_succ] at h; omega)
    show x ≤ 68 + 256 * rep 68 k
    omega
theorem nib (x : Nat) : ∃ d0 d1 q, d0 < 16 ∧ d1 < 16 ∧ x = d0 + 16 * d1 + 256 * q ∧ x % 16 = d0 ∧ x / 16 % 16 = d1 ∧ x / 256 = q ∧ x / 16 = d1 + 16 * q ∧ x % 256 = d0 + 16 * d1 := by
  refine ⟨x % 16, x / 16 % 16, x / 256, Nat.mod_lt _ (by decide), Nat.mod_lt _ (by decide), ?_, rfl, rfl, rfl, ?_, ?_⟩
  · rw [show (256 : Nat) = 16 * 16 from rfl, ← Nat.div_div_eq_div_mul]
    omega
  · rw [show (256 : Nat) = 16 * 16 from rfl, ← Nat.div_div_eq_div_mul]
    omega
  · rw [show (256 : Nat) = 16 * 16 from rfl, Nat.mod_mul]
theorem step3 : ∀ k x, small4 k x → ((x / 16 + x) &&& rep 15 k) = mapB g3 k x
  | 0, x, _ => by simp [rep, mapB]
  | 1, x, h => by
    obtain ⟨⟨h1, h2⟩, _⟩ := h
    rw [and_rep _ _ _ (by decide), and15]
    show _ = g3 (x % 256) + 256 * 0
    unfold g3
    simp only [rep, Nat.and_zero]
    obtain ⟨d0, d1, q, l0, l1, ex, e1, e2, _, e4, e5⟩ := nib x
    rw [e1] at h1
    rw [e2] at h2
    rw [e4, e5, ex]
    omega
  | k + 2, x, h => by
    obtain ⟨⟨h1, h2⟩, h3⟩ := h
    have hq := step3 (k + 1) (x / 256) h3
    obtain ⟨⟨h4, _⟩, _⟩ := h3
    obtain ⟨d0, d1, q, l0, l1, ex, e1, e2, e3, e4, e5⟩ := nib x
    rw [e1] at h1
    rw [e2] at h2
    rw [e3] at h4 hq
    have ed : (x / 16 + x) / 256 = q / 16 + q := by
      rw [e4, ex]
      omega
    have em : (x / 16 + x) % 16 = d0 + d1 := by
      rw [e4, ex]
      omega
    rw [and_rep _ _ _ (by decide), and15, em, ed, hq]
    show _ = g3 (x % 256) + 256 * mapB g3 (k + 1) (x / 256)
    rw [e3, e5]
    unfold g3
    omega

theorem ones_map : ∀ k x, mapB g3 k (mapB g2 k (mapB g1 k x)) = mapB (ones 8) k x := fun k x => by
  rw [mapB_comp g1 g2 (fun r hr => g1_lt ⟨r, hr⟩), mapB_comp (fun r => g2 (g1 r)) g3 (fun r hr => (g2_ok ⟨r, hr⟩).1)]
  exact mapB_congr _ _ (fun r hr => g3_eq ⟨r, hr⟩) k x

theorem fold8 (x : Nat) : ∃ p0 p1 p2 p3 p4 p5 p6 p7 : Nat, p0 ≤ 8 ∧ p1 ≤ 8 ∧ p2 ≤ 8 ∧ p3 ≤ 8 ∧ p4 ≤ 8 ∧ p5 ≤ 8 ∧ p6 ≤ 8 ∧ p7 ≤ 8 ∧ ones 64 x = p0 + p1 + p2 + p3 + p4 + p5 + p6 + p7 ∧
    mapB (ones 8) 8 x = p0 + 256 * (p1 + 256 * (p2 + 256 * (p3 + 256 * (p4 + 256 * (p5 + 256 * (p6 + 256 * p7)))))) := by
  refine ⟨_, _, _, _, _, _, _, _, ones_le _ _, ones_le _ _, ones_le _ _, ones_le _ _, ones_le _ _, ones_le _ _, ones_le _ _, ones_le _ _, ?_, rfl⟩
  rw [show (64 : Nat) = 8 + 56 from rfl, ones_byte, show (56 : Nat) = 8 + 48 from rfl, ones_byte, show (48 : Nat) = 8 + 40 from rfl, ones_byte, show (40 : Nat) = 8 + 32 from rfl, ones_byte, show (32 : Nat) = 8 + 24 from rfl, ones_byte, show (24 : Nat) = 8 + 16 from rfl, ones_byte, show (16 : Nat) = 8 + 8 from rfl, ones_byte, show ones 8 (x / 256 / 256 / 256 / 256 / 256 / 256 / 256) = ones 8 (x / 256 / 256 / 256 / 256 / 256 / 256 / 256 % 256) from ones8_mod _]
  omega

theorem sum8 (p0 p1 p2 p3 p4 p5 p6 p7 : Nat) (h0 : p0 ≤ 8) (h1 : p1 ≤ 8) (h2 : p2 ≤ 8) (h3 : p3 ≤ 8) (h4 : p4 ≤ 8) (h5 : p5 ≤ 8) (h6 : p6 ≤ 8) (h7 : p7 ≤ 8) (y3 y4 y5 y6 : Nat)
    (e3 : y3 = p0 + 256 * (p1 + 256 * (p2 + 256 * (p3 + 256 * (p4 + 256 * (p5 + 256 * (p6 + 256 * p7))))))) (e4 : y4 = y3 + y3 / 256) (e5 : y5 = y4 + y4 / 65536) (e6 : y6 = y5 + y5 / 4294967296) :
    y6 % 128 = p0 + p1 + p2 + p3 + p4 + p5 + p6 + p7 ∧ y6 < 9223372036854775808 := by
  have q1 : y3 / 256 = p1 + 256 * (p2 + 256 * (p3 + 256 * (p4 + 256 * (p5 + 256 * (p6 + 256 * p7))))) := by
    rw [e3]
    generalize p1 + 256 * (p2 + 256 * (p3 + 256 * (p4 + 256 * (p5 + 256 * (p6 + 256 * p7))))) = z
    omega
  rw [q1] at e4
  have d4 : y4 = (p0 + p1) + 256 * ((p1 + p2) + 256 * ((p2 + p3) + 256 * ((p3 + p4) + 256 * ((p4 + p5) + 256 * ((p5 + p6) + 256 * ((p6 + p7) + 256 * p7)))))) := by rw [e4, e3]; omega
  clear q1 e4 e3
  have q2 : y4 / 65536 = (p2 + p3) + 256 * ((p3 + p4) + 256 * ((p4 + p5) + 256 * ((p5 + p6) + 256 * ((p6 + p7) + 256 * p7)))) := by
    rw [d4]
    generalize (p2 + p3) + 256 * ((p3 + p4) + 256 * ((p4 + p5) + 256 * ((p5 + p6) + 256 * ((p6 + p7) + 256 * p7)))) = z
    omega
  rw [q2] at e5
  have d5 : y5 = (p0 + p1 + p2 + p3) + 256 * ((p1 + p2 + p3 + p4) + 256 * ((p2 + p3 + p4 + p5) + 256 * ((p3 + p4 + p5 + p6) + 256 * ((p4 + p5 + p6 + p7) + 256 * ((p5 + p6 + p7) + 256 * ((p6 + p7) + 256 * p7)))))) := by rw [e5, d4]; omega
  clear q2 e5 d4
  have q3 : y5 / 4294967296 = (p4 + p5 + p6 + p7) + 256 * ((p5 + p6 + p7) + 256 * ((p6 + p7) + 256 * p7)) := by
    rw [d5]
    generalize (p4 + p5 + p6 + p7) + 256 * ((p5 + p6 + p7) + 256 * ((p6 + p7) + 256 * p7)) = z
    omega
  rw [q3] at e6
  have d6 : y6 = (p0 + p1 + p2 + p3 + p4 + p5 + p6 + p7) + 256 * ((p1 + p2 + p3 + p4 + p5 + p6 + p7) + 256 * ((p2 + p3 + p4 + p5 + p6 + p7) + 256 * ((p3 + p4 + p5 + p6 + p7) + 256 * ((p4 + p5 + p6 + p7) + 256 * ((p5 + p6 + p7) + 256 * ((p6 + p7) + 256 * p7)))))) := by rw [e6, d5]; omega
  clear q3 e6 d5
  refine ⟨?_, by omega⟩
  rw [d6]
  generalize (p1 + p2 + p3 + p4 + p5 + p6 + p7) + 256 * ((p2 + p3 + p4 + p5 + p6 + p7) + 256 * ((p3 + p4 + p5 + p6 + p7) + 256 * ((p4 + p5 + p6 + p7) + 256 * ((p5 + p6 + p7) + 256 * ((p6 + p7) + 256 * p7))))) = z
  omega

theorem and127 (y : Nat) (h : y < 9223372036854775808) : bits .and .i64 (wrap64 (y : Int)) 127 = ((y % 128 : Nat) : Int) := by
  have e : wrap64 (y : Int) = (y : Int) := by unfold wrap64; omega
  rw [e]
  show IntKind.i64.wrap ((BitVec.ofInt 64 (y : Int) &&& BitVec.ofInt 64 ((127 : Nat) : Int)).toNat : Int) = _
  rw [BitVec.toNat_and, ofInt_u64 y (by omega), ofInt_u64 127 (by decide)]
  have h2 := Nat.and_two_pow_sub_one_eq_mod y 7
  rw [show 2 ^ 7 - 1 = 127 from rfl, show 2 ^ 7 = 128 from rfl] at h2
  rw [h2]
  simp only [IntKind.wrap, IntKind.signed, IntKind.bits]
  simp
  omega

theorem wsum (a b c : Nat) (h : a + b = c) (hc : c < 18446744073709551616) : IntKind.u64.wrap ((a : Int) + b) = c := by
  rw [IntKind.wrap_u64]
  omega
theorem half_lt (x k : Nat) (hx : x < 18446744073709551616) : x / k < 18446744073709551616 := Nat.lt_of_le_of_lt (Nat.div_le_self _ _) hx

/-- what math/bits reckons step by step is how many bits are 1. -/
theorem chain (x : Nat) (hx : x < 18446744073709551616) : ∃ y1 y2 y3 y4 y5 y6 : Int,
    IntKind.u64.wrap (bits .and .u64 ((x : Int) / 2) 6148914691236517205 + bits .and .u64 (x : Int) 6148914691236517205) = y1 ∧
    IntKind.u64.wrap (bits .and .u64 (y1 / 4) 3689348814741910323 + bits .and .u64 y1 3689348814741910323) = y2 ∧
    bits .and .u64 (IntKind.u64.wrap (y2 / 16 + y2)) 1085102592571150095 = y3 ∧
    IntKind.u64.wrap (y3 + y3 / 256) = y4 ∧ IntKind.u64.wrap (y4 + y4 / 65536) = y5 ∧ IntKind.u64.wrap (y5 + y5 / 4294967296) = y6 ∧ bits .and .i64 (wrap64 y6) 127 = (ones 64 x : Int) := by
  have r1 : (6148914691236517205 : Int) = ((rep 85 8 : Nat) : Int) := by decide
  have r2 : (3689348814741910323 : Int) = ((rep 51 8 : Nat) : Int) := by decide
  have r3 : (1085102592571150095 : Int) = ((rep 15 8 : Nat) : Int) := by decide
  have l1 : rep 85 8 < 18446744073709551616 := by decide
  have l2 : rep 51 8 < 18446744073709551616 := by decide
  have l3 : rep 15 8 < 18446744073709551616 := by decide
  have hg1 : ∀ r, r < 256 → g1 r < 256 := fun r hr => g1_lt ⟨r, hr⟩
  have b1 : mapB g1 8 x < 18446744073709551616 := mapB_lt g1 hg1 8 x
  have c2 := mapB_comp g1 g2 hg1 8 x
  have b2 : mapB g2 8 (mapB g1 8 x) < 18446744073709551616 := by rw [c2]; exact mapB_lt _ (fun r hr => (g2_ok ⟨r, hr⟩).1) 8 x
  have s3 := step3 8 (mapB g2 8 (mapB g1 8 x)) (by rw [c2]; exact small4_map 8 x)
  rw [ones_map] at s3
  have s1 := step1 8 x
  have s2 := step2 8 (mapB g1 8 x)
  obtain ⟨p0, p1, p2, p3, p4, p5, p6, p7, h0, h1, h2, h3, h4, h5, h6, h7, hs, hm⟩ := fold8 x
  have hf := sum8 p0 p1 p2 p3 p4 p5 p6 p7 h0 h1 h2 h3 h4 h5 h6 h7 (mapB (ones 8) 8 x) _ _ _ hm rfl rfl rfl
  have b22 : mapB g2 8 (mapB g1 8 x) ≤ 4919131752989213764 := by
    have h4 := top4 8 (mapB g2 8 (mapB g1 8 x)) (by rw [c2]; exact small4_map 8 x) b2
    exact h4
  generalize hy1 : mapB g1 8 x = y1 at *
  generalize hy2 : mapB g2 8 y1 = y2 at *
  generalize hy3 : mapB (ones 8) 8 x = y3 at *
  have hy6 := Nat.lt_trans hf.2 (by decide : 9223372036854775808 < 18446744073709551616)
  have hy5 := Nat.lt_of_le_of_lt (Nat.le_add_right _ _) hy6
  have hy4 := Nat.lt_of_le_of_lt (Nat.le_add_right _ _) hy5
  have hs2 : y2 / 16 + y2 < 18446744073709551616 := by clear hf hm hs hy6 hy5 hy4; omega
  clear hm
  refine ⟨y1, y2, y3, (y3 + y3 / 256 : Nat), (y3 + y3 / 256 + (y3 + y3 / 256) / 65536 : Nat), (y3 + y3 / 256 + (y3 + y3 / 256) / 65536 + (y3 + y3 / 256 + (y3 + y3 / 256) / 65536) / 4294967296 : Nat), ?_, ?_, ?_, wsum _ _ _ rfl hy4, wsum _ _ _ rfl hy5, wsum _ _ _ rfl hy6, ?_⟩
  · rw [r1, show (x : Int) / 2 = ((x / 2 : Nat) : Int) from rfl, u64_and_nat _ _ (half_lt x 2 hx) l1, u64_and_nat _ _ hx l1]
    exact wsum _ _ _ s1 b1
  · rw [r2, show (y1 : Int) / 4 = ((y1 / 4 : Nat) : Int) from rfl, u64_and_nat _ _ (half_lt y1 4 b1) l2, u64_and_nat _ _ b1 l2]
    exact wsum _ _ _ s2 b2
  · have e : IntKind.u64.wrap ((y2 : Int) / 16 + y2) = ((y2 / 16 + y2 : Nat) : Int) := wsum (y2 / 16) y2 _ rfl hs2
    rw [r3, e, u64_and_nat _ _ hs2 l3, s3]
  · rw [and127 _ hf.2, hf.1, hs]

end Go.Proofs.YtdenmbigdklhkaaDoor.Num
