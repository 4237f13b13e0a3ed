/- The walk of LebStays: it returns true, whatever the input; nothing that was there changes. -/
import Derived.Test.YtdmgmlhcpkampaaLebD
import Derived.Test.YtdmgmlhcpkampaaLebMath3
import Derived.OpenShut
namespace Go.Proofs.Ytdmgmlhcpkampaa
open Go.RowKit

theorem u8s_one (bs : List UInt8) : ∀ u ∈ u8s bs, u.oneCell' = true := by
  intro u hu
  simp only [u8s, List.mem_map] at hu
  obtain ⟨b, _, rfl⟩ := hu
  rfl

/-- leb.U at whatever place: it returns, and leaves memory alone. -/
theorem U_tot {A : Option Addr} {n c : Nat} {bs : List UInt8} {w : World} {B : Nat} (at_ bits : Int) (hs : Sl w B A (u8s bs)) (hB : B ≤ w.heap.size) (hn : bs.length = n) (hc : n ≤ c) (hm : c ≤ maxLen) :
    Calls Try.prog 10 #[.slice A n c, .int .i64 at_, .int .i64 bits] w fun e w' => (∃ r, e = .returned r) ∧ ∃ nq, w' = w.drewN nq := by
  by_cases h : bits < 1 ∨ 64 < bits ∨ at_ < 0 ∨ n < at_
  · exact (U_bad A n c at_ bits w h).mono fun e w' ⟨h1, h2⟩ => ⟨⟨_, h1⟩, 0, h2.symm⟩
  · exact (U_int _ hs hB hn hc hm (by omega) (by omega) (by omega) (by omega) rfl).mono fun e w' ⟨h1, h2⟩ => ⟨⟨_, h1⟩, h2⟩
theorem S_tot {A : Option Addr} {n c : Nat} {bs : List UInt8} {w : World} {B : Nat} (at_ bits : Int) (hs : Sl w B A (u8s bs)) (hB : B ≤ w.heap.size) (hn : bs.length = n) (hc : n ≤ c) (hm : c ≤ maxLen) :
    Calls Try.prog 11 #[.slice A n c, .int .i64 at_, .int .i64 bits] w fun e w' => (∃ r, e = .returned r) ∧ w = w' := by
  by_cases h : bits < 1 ∨ 64 < bits ∨ at_ < 0 ∨ n < at_
  · exact (S_bad A n c at_ bits w h).mono fun e w' ⟨h1, h2⟩ => ⟨⟨_, h1⟩, h2⟩
  · exact (S_int _ hs hB hn hc hm (by omega) (by omega) (by omega) (by omega) rfl).mono fun e w' ⟨h1, h2⟩ => ⟨⟨_, h1⟩, h2⟩

theorem Leb.putU_head (v : Nat) : ((Leb.putU v)[0]'(Leb.putU_pos v)).toNat % 128 = v % 128 := by
  have h : ∀ l : List UInt8, ∀ h : 0 < l.length, Leb.joinOf l % 128 = (l[0]).toNat % 128 := fun l h => by
    cases l with
    | nil => simp at h
    | cons b r => rw [Leb.joinOf, List.getElem_cons_zero]; omega
  rw [← h, Leb.putU_join]

theorem Own.cellk {B : Nat} {w0 w : World} {e : TypeId} {xs : List Value} {g c n : Nat} (h : Own B w0 w e (.slice (some ⟨g, 0, none⟩) n c) xs) (hn : xs.length = n) (j : Nat) (hj : j < n) :
    (∃ u, w.cell? ⟨g, j, none⟩ = some u) ∧ w.frozen? ⟨g, j, none⟩ = false := by
  subst hn
  have := h.row.cellAt j (by omega)
  rw [List.getElem?_eq_getElem hj] at this
  exact ⟨⟨_, this⟩, h.row.frozenAt j⟩
theorem Own.storek {B : Nat} {w0 w : World} {e : TypeId} {xs : List Value} {g c n : Nat} (h : Own B w0 w e (.slice (some ⟨g, 0, none⟩) n c) xs) (hn : xs.length = n) (hg : B ≤ g) (j : Nat) (u : Value) :
    Own B w0 (w.setCell ⟨g, j, none⟩ u) e (.slice (some ⟨g, 0, none⟩) n c) (xs.set j u) ∧ (xs.set j u).length = n := by
  subst hn
  exact ⟨h.store hg j u, by simp⟩

set_option maxHeartbeats 2000000 in
set_option maxRecDepth 100000 in
theorem walk_LebStays (A : Option Addr) (c : Nat) (bs : List UInt8) (at_ a : Int) (w : World) (hs : Sl w w.heap.size A (u8s bs)) (hc : bs.length ≤ c) (hm : c ≤ maxLen)
    (hat : (Lit.int .i64 at_).wf = true) (ha : (Lit.int .u64 a).wf = true) :
    Calls Try.prog 7 #[.slice A bs.length c, .int .i64 at_, .int .u64 a] w fun e w' => e = .returned (.bool true) ∧ Below w.heap.size w w' := by
  obtain ⟨h1, h2⟩ := bounds_u64 ha
  obtain ⟨v, rfl⟩ := Int.eq_ofNat_of_zero_le h1
  clear ha h1 hat
  have hm' := hm
  unfold maxLen at hm'
  by_cases hbig : 1000 < bs.length
  · go_enter Try.func7, Try.ntmps7
    go_wp2_with fail
    with_reducible refine (up_any _).mono ?_
    rintro e w1 ⟨rfl, hb1⟩
    go_wp2
    go_ret
    exact ⟨rfl, hb1⟩
  · have hlen := Leb.putU_len10 (v := v) (by omega)
    have hpos := Leb.putU_pos v
    go_enter Try.func7, Try.ntmps7
    go_wp2_with fail
    with_reducible refine (up_any _).mono ?_
    rintro e w1 ⟨rfl, hb1⟩
    have hs1 := hs.below hb1
    have hemp := Own.empty w1 5
    have hs2 := hs1.below ((Below.refl _ _).alloc hb1.size (.cells #[] 5))
    go_wp2_with (at_builtin; refine wpList_cat rfl _ _ _ rfl _ 1 Try.underlying22 elem_u8 (by decide) _ _ _ _ _ _ A bs.length c (u8s bs) rfl hemp rfl hs2 (by simp) (u8s_one _) (by simp; omega) ?_; intro v2 w2 hown2)
    obtain ⟨A2, c2, rfl, hc21, hc22, hsl2⟩ := Own.bytes (bs := bs) (by simpa using hown2)
    have hb2 := hb1.trans (hown2.below.mono hb1.size)
    have hs3 := hs.below hb2
    clear hown2 hs1 hs2 hemp
    go_wp2_with fail
    with_reducible refine (U_tot _ _ hsl2 (Nat.le_refl _) rfl hc21 hc22).mono ?_
    rintro e w3 ⟨⟨r3, rfl⟩, nq, hw3⟩
    have hb3 : Below w2.heap.size w2 w3 := by rw [hw3]; exact below_drewN (Below.refl _ _) _
    clear hw3
    go_wp2_with fail
    with_reducible refine (S_tot _ _ (hsl2.below hb3) hb3.size rfl hc21 hc22).mono ?_
    rintro e w4 ⟨⟨r4, rfl⟩, rfl⟩
    go_wp2_with fail
    with_reducible refine (PutU_any _ _ (by omega)).mono ?_
    rintro e w5 ⟨p, rfl, hown5⟩
    obtain ⟨g, cp, rfl, hg1, hg2, hcp1, hcp2, _, _⟩ := hown5.at_ (by simpa using hpos)
    rw [u8s_length] at hown5 ⊢
    have hP := Leb.putU_head v
    obtain ⟨L, hL⟩ : ∃ L, L = (Leb.putU v).length := ⟨_, rfl⟩
    have HL := Lib.hid hL
    rw [← hL] at hown5 hlen hpos ⊢
    clear hL
    go_wp2
    go_loopw [11] (fun i wr => ∃ (k : Nat) (ys : List Value), k ≤ L ∧ i = .int .i64 k ∧ Own w3.heap.size w3 wr 5 (.slice (some ⟨g, 0, none⟩) L cp) ys ∧ Hid (ys.length = L)) (fun i _ => L - (intOf i).toNat)
    case atStart => exact ⟨0, _, Nat.zero_le _, rfl, hown5, Lib.hid (by simp [HL.out])⟩
    case round =>
      obtain ⟨k, ys, hk, rfl, hown, HY⟩ := hrel
      by_cases hlt : k < L
      · obtain ⟨⟨u, hcell⟩, hfr⟩ := hown.cellk HY.out k hlt
        obtain ⟨hst, hsl⟩ := hown.storek HY.out hg1 k (.int .u8 7)
        have HSL := Lib.hid hsl
        clear hsl
        go_wp2
        go_roundw
        case rel => exact ⟨k + 1, _, by omega, by go_num, hst, HSL⟩
        case measure => simp [intOf]; omega
      · go_wp2_with fail
        with_reducible refine (PutU_any _ _ (by omega)).mono ?_
        rintro e w6 ⟨q, rfl, hown6⟩
        obtain ⟨g6, c6, rfl, hg61, hg62, hc61, hc62, hcell6, _⟩ := hown6.at_ (by simpa [HL.out] using hpos)
        have hc0 := hcell6 0 (by rw [u8s_length, ← HL.out]; exact hpos)
        rw [u8s_get _ 0 (by rw [← HL.out]; exact hpos)] at hc0
        rw [u8s_length, ← HL.out]
        have hb6 : Below w3.heap.size w3 w6 := hown.below.trans (hown6.below.mono hown.le)
        have hb7 := hb3.trans (hb6.mono hb3.size)
        have hcv1 := run_str_of (P := Try.prog) 22 9 5 Try.underlying22 Try.underlying5 Try.underlying9 (hsl2.below hb7) c2
        have hcv2 := run_str_of (P := Try.prog) 22 9 5 Try.underlying22 Try.underlying5 Try.underlying9 (hs3.below (hb7.mono hb2.size)) c
        have hbf := hb2.trans (hb7.mono hb2.size)
        have hx8 := ((Leb.putU v)[0]'(Leb.putU_pos v)).toNat_lt
        obtain ⟨x, hx⟩ : ∃ x, x = ((Leb.putU v)[0]'(Leb.putU_pos v)).toNat := ⟨_, rfl⟩
        rw [← hx] at hc0 hP hx8
        have hPI : (x : Int) % 128 = (v : Int) % 128 := by omega
        clear hx hP hown6 hown hcell6 hs3 hsl2
        go_wp2
        go_ret
        exact ⟨rfl, hbf⟩

end Go.Proofs.Ytdmgmlhcpkampaa
