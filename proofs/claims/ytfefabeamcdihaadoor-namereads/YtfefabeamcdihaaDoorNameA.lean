/- Contracts of name.Check, name.Chars, name.Put: what each tells, for every input in its range. -/
import Derived.Test.YtfefabeamcdihaaDoorSpots
import Derived.Test.YtfefabeamcdihaaDoorU8b
import Derived.Test.YtfefabeamcdihaaDoorNameMath
import Derived.Lib.OthersKept
namespace Go.Proofs.YtfefabeamcdihaaDoor
open Go.RowKit Go.Lib

/-- an error of layer 2: none, or a Spot at a place, with ErrForm. -/
def NErr (w : World) (v : Value) : Option Nat → Prop
  | none => v = .nilIface
  | some p => SpotIs w v p 2
theorem NErr.below {w w' : World} {v : Value} {r : Option Nat} (h : NErr w v r) (hb : Below w.heap.size w w') : NErr w' v r := by
  cases r with
  | none => exact h
  | some p => exact SpotIs.below h hb

theorem Sl.cut {w : World} {B b off : Nat} {vs : List Value} (h : Sl w B (some ⟨b, off, none⟩) vs) (k : Nat) : Sl w B (some ⟨b, off + k, none⟩) (vs.drop k) := fun hn => by
  have hk : k < vs.length := by
    rcases Nat.lt_or_ge k vs.length with h1 | h1
    · exact h1
    · exact absurd (List.drop_eq_nil_of_le h1) hn
  obtain ⟨b', off', e, hb, hcell⟩ := h (fun e => by simp [e] at hk)
  injection e with e; injection e with e1 e2; subst e1 e2
  refine ⟨b, off + k, rfl, hb, fun i hi => ?_⟩
  rw [List.length_drop] at hi
  rw [show off + k + i = off + (k + i) by omega, hcell _ (by omega), List.getElem?_drop]
theorem Sl.cut8 {w : World} {B b off : Nat} {bs : List UInt8} (h : Sl w B (some ⟨b, off, none⟩) (u8s bs)) (k : Nat) : Sl w B (some ⟨b, off + k, none⟩) (u8s (bs.drop k)) := by
  rw [u8s_drop]; exact h.cut k
theorem decode_int {A : Option Addr} {n c : Nat} {bs : List UInt8} {w : World} {B : Nat} (hT : U8T w) (hs : Sl w B A (u8s bs)) (hB : B ≤ w.heap.size) (hb : bs.length = n) (hn : 1 ≤ n) (hc : n ≤ c) (hm : c ≤ maxLen) :
    Calls Tryd.prog 17 #[.slice A n c] w fun e w' => e = .returned (.tuple #[.int .i32 (Utf.dec bs).1, .int .i64 (Utf.dec bs).2]) ∧ Below w.heap.size w w' := by
  subst hb
  exact decode_any A c bs w hT (hs.more hB) hn hc hm

theorem Utf.pair_bad {d : Nat × Nat} (h1 : d.1 = 65533) (h2 : d.2 = 1) : d = (65533, 1) := Prod.ext h1 h2
theorem Utf.step2 {bs : List UInt8} {p : Nat} (hp : p < bs.length) (hb : Utf.dec (bs.drop p) ≠ (65533, 1)) (h : (Utf.all bs).2 = (Utf.all (bs.drop p)).2.map (· + p)) :
    (Utf.all bs).2 = (Utf.all (bs.drop (p + (Utf.dec (bs.drop p)).2))).2.map (· + (p + (Utf.dec (bs.drop p)).2)) := by
  rw [h, Utf.all_step _ (by simp; omega) hb, List.drop_drop, Option.map_map]
  congr 1
  funext x
  simp [Function.comp]
  omega

set_option maxHeartbeats 1000000 in
set_option maxRecDepth 100000 in
theorem check_any (A : Option Addr) (c : Nat) (bs : List UInt8) (w : World) (hT : U8T w) (hs : Sl w w.heap.size A (u8s bs)) (hc : bs.length ≤ c) (hm : c ≤ maxLen) :
    Calls Tryd.prog 10 #[.slice A bs.length c] w fun e w' => Below w.heap.size w w' ∧ ∃ v, e = .returned v ∧ NErr w' v (Utf.all bs).2 := by
  have HM := Lib.hid hm
  unfold maxLen at hm
  have HN := Lib.hid (fun (w : World) (a c : Int) (t : TypeId) => SpotIs.new w a c t)
  go_enter Tryd.func10, Tryd.ntmps10
  go_wp2
  go_loopw [3] (fun i wr => ∃ p : Nat, p ≤ bs.length ∧ i = .int .i64 p ∧ Below w.heap.size w wr ∧ Hid ((Utf.all bs).2 = (Utf.all (bs.drop p)).2.map (· + p))) (fun i _ => bs.length - (intOf i).toNat)
  case atStart => exact ⟨0, Nat.zero_le _, rfl, Below.refl _ _, Lib.hid (by simp)⟩
  case round =>
    obtain ⟨p, hp, rfl, hb, HA⟩ := hrel
    by_cases hlt : p < bs.length
    · obtain ⟨b, off, rfl, hbl, _⟩ := hs (by intro h; have := congrArg List.length h; simp at this; simp [this] at hlt)
      have hck : ¬ c = p := by omega
      have hsl2 := Sl.cut8 (hs.below hb) p
      have HS2 := Lib.hid hsl2
      have HT2 := Lib.hid (hT.below hb)
      have HW := Lib.hid (Utf.dec_width (bs.drop p) (by simp; omega))
      have HST := Lib.hid (fun h => Utf.step2 hlt h HA.out)
      have HBD := Lib.hid (fun h => Utf.all_bad (bs.drop p) (by simp; omega) h)
      have hle := Utf.dec_le (bs.drop p)
      go_wp2_with fail
      with_reducible refine (decode_int HT2.out HS2.out hb.size (by simp) (by omega) (by omega) (by have := HM.out; omega)).mono ?_
      rintro e w1 ⟨rfl, hb1⟩
      have hb2 := hb.trans (hb1.mono hb.size)
      obtain ⟨x, y, hd⟩ : ∃ x y, Utf.dec (bs.drop p) = (x, y) := ⟨_, _, rfl⟩
      have hwd := HW.out
      rw [hd] at HST HBD hle hwd
      rw [hd]
      simp only at hwd hle
      obtain ⟨hw1, hw2, hw3⟩ := hwd
      rw [List.length_drop] at hw2
      clear hd hb1 HW
      by_cases hbad : x = 65533 ∧ y = 1
      · obtain ⟨rfl, rfl⟩ := hbad
        go_wp2
        go_ret
        refine ⟨hb2.alloc hb2.size _, _, rfl, ?_⟩
        rw [HA.out, HBD.out (by trivial)]
        simp only [Option.map_some, NErr, Nat.zero_add]
        exact HN.out _ _ _ _
      · have HR := Lib.hid (HST.out (fun h => hbad ⟨(Prod.mk.inj h).1, (Prod.mk.inj h).2⟩))
        by_cases hx : x = 65533
        · have hy : ¬ y = 1 := fun h => hbad ⟨hx, h⟩
          subst hx
          clear hbad
          go_wp2
          go_roundw
          case rel => exact ⟨p + y, by omega, by go_num, hb2, HR⟩
          case measure => simp [intOf]; omega
        · clear hbad
          go_wp2
          go_roundw
          case rel => exact ⟨p + y, by omega, by go_num, hb2, HR⟩
          case measure => simp [intOf]; omega
    · have : p = bs.length := by omega
      subst this
      go_wp2
      go_ret
      refine ⟨hb, _, rfl, ?_⟩
      rw [HA.out, List.drop_length, Utf.all_nil]
      rfl

end Go.Proofs.YtfefabeamcdihaaDoor
