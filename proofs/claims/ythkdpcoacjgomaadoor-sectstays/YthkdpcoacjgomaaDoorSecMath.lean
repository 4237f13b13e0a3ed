/- The plain mathematics of layer 7: sections of bytes, split and joined. No condition; nothing of the program. -/
import Derived.Test.YthkdpcoacjgomaaDoorLebM
set_option linter.unusedVariables false
set_option linter.unusedSimpArgs false
namespace Go.Proofs.YthkdpcoacjgomaaDoor.Sect
open Leb

/-- what a section says: its Id, where its bytes begin, its bytes. -/
structure Pt where
  id : Int
  at_ : Nat
  bs : List UInt8
/-- its Id and its bytes. -/
def Pt.key (s : Pt) : Int × List UInt8 := (s.id, s.bs)
def magic : List UInt8 := [0, 97, 115, 109, 1, 0, 0, 0]
/-- may this Id stand behind others, of which the highest is hi? -/
def fol (i hi : Int) : Bool := i == 0 || (decide (hi < i) && decide (i ≤ 11))
/-- ahead of what is split behind it. -/
def pre (acc : List Pt) : Except (Nat × Nat) (List Pt) → Except (Nat × Nat) (List Pt)
  | .error e => .error e
  | .ok l => .ok (acc ++ l)
/-- the sections that stand at p, behind n others whose highest Id is hi; or what is amiss first, and where. -/
def spl (l : List UInt8) (p : Nat) (hi : Int) (n : Nat) : Except (Nat × Nat) (List Pt) :=
  match l with
  | [] => .ok []
  | x :: r =>
    if fol x.toNat hi = false then .error (2, p)
    else if n = 128 then .error (7, p)
    else match uOf r 0 32 with
      | none => .error (2, p + 1)
      | some (k, j) => if r.length - j < k then .error (2, p + 1)
        else pre [⟨x.toNat, p + 1 + j, (r.drop j).take k⟩] (spl (r.drop (j + k)) (p + 1 + j + k) (max hi x.toNat) (n + 1))
termination_by l.length
decreasing_by simp; omega
/-- the sections of bytes. -/
def split (bs : List UInt8) : Except (Nat × Nat) (List Pt) := if bs.take 8 = magic then spl (bs.drop 8) 8 0 0 else .error (2, 0)
theorem spl_nil (p : Nat) (hi : Int) (n : Nat) : spl [] p hi n = .ok [] := by rw [spl]
theorem spl_cons (x : UInt8) (r : List UInt8) (p : Nat) (hi : Int) (n : Nat) : spl (x :: r) p hi n =
    if fol x.toNat hi = false then .error (2, p)
    else if n = 128 then .error (7, p)
    else match uOf r 0 32 with
      | none => .error (2, p + 1)
      | some (k, j) => if r.length - j < k then .error (2, p + 1)
        else pre [⟨x.toNat, p + 1 + j, (r.drop j).take k⟩] (spl (r.drop (j + k)) (p + 1 + j + k) (max hi x.toNat) (n + 1)) := by rw [spl]
theorem pre_pre (a b : List Pt) (r : Except (Nat × Nat) (List Pt)) : pre a (pre b r) = pre (a ++ b) r := by cases r <;> simp [pre]
theorem pre_nil (r : Except (Nat × Nat) (List Pt)) : pre [] r = r := by cases r <;> simp [pre]

theorem uOf_drop (bs : List UInt8) (k bits : Nat) : uOf bs k bits = (uOf (bs.drop k) 0 bits).map fun q => (q.1, k + q.2) := by
  unfold uOf
  rw [List.drop_zero]
  cases h : lenOf (bs.drop k) ((bits + 6) / 7) with
  | none => rfl
  | some j =>
    obtain ⟨j1, j2, j3, j4⟩ := lenOf_of_some _ _ _ h
    have e : (bs.drop k)[0 + j - 1]? = bs[k + j - 1]? := by
      rw [List.getElem?_drop]; congr 1; omega
    simp only [e]
    split
    · rfl
    · simp
theorem uOf_ge (bs : List UInt8) (k bits u n : Nat) (h : uOf bs k bits = some (u, n)) : k + 1 ≤ n := by
  unfold uOf at h
  split at h
  · cases h
  · rename_i j hj
    obtain ⟨j1, j2, j3, j4⟩ := lenOf_of_some _ _ _ hj
    split at h
    · cases h
    · injection h with h
      injection h with e1 e2
      omega
theorem lenOf_app : ∀ (l t : List UInt8) (m j : Nat), lenOf l m = some j → lenOf (l ++ t) m = some j
  | [], _, _, _, h => by simp [lenOf] at h
  | _ :: _, _, 0, _, h => by simp [lenOf] at h
  | b :: r, t, m + 1, j, h => by
    rw [List.cons_append, lenOf]
    unfold lenOf at h
    split at h
    · rename_i hb; rw [if_pos hb]; exact h
    · rename_i hb
      rw [if_neg hb]
      rw [Option.map_eq_some_iff] at h
      obtain ⟨j', h', rfl⟩ := h
      rw [lenOf_app r t m j' h']; rfl
theorem uOf_app (l t : List UInt8) (bits u n : Nat) (h : uOf l 0 bits = some (u, n)) : uOf (l ++ t) 0 bits = some (u, n) := by
  unfold uOf at h ⊢
  rw [List.drop_zero] at h ⊢
  cases hj : lenOf l ((bits + 6) / 7) with
  | none => rw [hj] at h; cases h
  | some j =>
    rw [hj] at h
    rw [lenOf_app l t _ j hj]
    obtain ⟨j1, j2, j3, j4⟩ := lenOf_of_some _ _ _ hj
    have e : (l ++ t)[0 + j - 1]? = l[0 + j - 1]? := List.getElem?_append_left (by omega)
    have e2 : (l ++ t).take j = l.take j := List.take_append_of_le_length (by omega)
    simp only [e, e2]
    exact h

/-- one section, as a loop that goes from place to place reads it. -/
theorem spl_at (bs : List UInt8) (p : Nat) (hi : Int) (n : Nat) (h : p < bs.length) : spl (bs.drop p) p hi n =
    if fol (bs[p]).toNat hi = false then .error (2, p)
    else if n = 128 then .error (7, p)
    else match uOf bs (p + 1) 32 with
      | none => .error (2, p + 1)
      | some (k, j) => if bs.length - j < k then .error (2, p + 1)
        else pre [⟨(bs[p]).toNat, j, (bs.drop j).take k⟩] (spl (bs.drop (j + k)) (j + k) (max hi (bs[p]).toNat) (n + 1)) := by
  rw [List.drop_eq_getElem_cons h, spl_cons, uOf_drop bs (p + 1) 32]
  cases hu : uOf (bs.drop (p + 1)) 0 32 with
  | none => rfl
  | some q =>
    obtain ⟨k, j⟩ := q
    simp only [Option.map_some, List.length_drop, List.drop_drop]
    have e1 : p + 1 + j + k = p + 1 + (j + k) := by omega
    have e2 : bs.length - (p + 1) - j = bs.length - (p + 1 + j) := by omega
    rw [e1, e2]

/-- Ids that rise. -/
def rise : Int → List Int → Bool
  | _, [] => true
  | hi, i :: r => fol i hi && rise (max hi i) r
/-- the highest Id. -/
def top (hi : Int) (l : List Int) : Int := l.foldl max hi
/-- a section's bytes. -/
def encS (s : Int × List UInt8) : List UInt8 := UInt8.ofNat s.1.toNat :: (putU s.2.length ++ s.2)
def encL (l : List (Int × List UInt8)) : List UInt8 := l.flatMap encS
/-- where they stand. -/
def pts : Nat → List (Int × List UInt8) → List Pt
  | _, [] => []
  | p, s :: r => ⟨s.1, p + 1 + (putU s.2.length).length, s.2⟩ :: pts (p + (encS s).length) r
theorem pts_key : ∀ (l : List (Int × List UInt8)) (p : Nat), (pts p l).map Pt.key = l
  | [], _ => rfl
  | s :: r, p => by rw [pts, List.map_cons, pts_key r]; rfl
theorem pts_length (l : List (Int × List UInt8)) (p : Nat) : (pts p l).length = l.length := by
  have := congrArg List.length (pts_key l p)
  simpa using this
theorem encL_cons (s : Int × List UInt8) (l : List (Int × List UInt8)) : encL (s :: l) = encS s ++ encL l := by simp [encL]
theorem encL_snoc (s : Int × List UInt8) (l : List (Int × List UInt8)) : encL (l ++ [s]) = encL l ++ encS s := by simp [encL]
theorem encS_length (s : Int × List UInt8) : (encS s).length = 1 + (putU s.2.length).length + s.2.length := by simp [encS]; omega
theorem fol_range {i hi : Int} (h : fol i hi = true) (h0 : 0 ≤ hi) : 0 ≤ i ∧ i ≤ 11 := by
  unfold fol at h
  simp at h
  omega
theorem top_ge {hi : Int} : ∀ {l : List Int} , hi ≤ top hi l
  | [] => Int.le_refl _
  | i :: r => by
    have := top_ge (hi := max hi i) (l := r)
    show hi ≤ top (max hi i) r
    omega

/-- what was joined is split as it was, whatever stands behind. -/
theorem spl_enc (more : List UInt8) : ∀ (l : List (Int × List UInt8)) (p : Nat) (hi : Int) (n : Nat), rise hi (l.map (·.1)) = true → 0 ≤ hi → n + l.length ≤ 128 → (∀ s ∈ l, s.2.length < 4294967296) →
    spl (encL l ++ more) p hi n = pre (pts p l) (spl more (p + (encL l).length) (top hi (l.map (·.1))) (n + l.length))
  | [], p, hi, n, _, _, _, _ => by simp [encL, pts, top, pre_nil]
  | s :: r, p, hi, n, hr, h0, hn, hb => by
    rw [List.map_cons, rise, Bool.and_eq_true] at hr
    obtain ⟨hf, hr⟩ := hr
    obtain ⟨hi1, hi2⟩ := fol_range hf h0
    have hx : ((UInt8.ofNat s.1.toNat).toNat : Int) = s.1 := by rw [toNat_ofNat (by omega)]; omega
    have hlen := hb s List.mem_cons_self
    have ih := spl_enc more r (p + (encS s).length) (max hi s.1) (n + 1) hr (by omega) (by simp at hn; omega) (fun q hq => hb q (List.mem_cons_of_mem _ hq))
    rw [encL_cons, List.append_assoc]
    unfold encS
    rw [List.cons_append, spl_cons, hx, hf, if_neg (by decide), if_neg (by simp at hn; omega), List.append_assoc, put_read _ 32 _ (by omega) (by omega), if_pos (by simpa using hlen)]
    dsimp only
    have e0 : ((putU s.2.length ++ (s.2 ++ (encL r ++ more))).length - (putU s.2.length).length) = s.2.length + (encL r ++ more).length := by simp only [List.length_append]; omega
    rw [e0, if_neg (by omega), List.drop_left, List.take_left, ← List.append_assoc, List.drop_append_of_le_length (by simp), show (putU s.2.length ++ s.2).drop ((putU s.2.length).length + s.2.length) = [] by rw [← List.length_append, List.drop_length], List.nil_append]
    have e1 : p + 1 + (putU s.2.length).length + s.2.length = p + (encS s).length := by rw [encS_length]; omega
    rw [e1, ih, pre_pre]
    have e2 : p + (encS s).length + (encL r).length = p + (UInt8.ofNat s.1.toNat :: (putU s.2.length ++ s.2) ++ encL r).length := by
      simp [encS]; omega
    have e3 : n + 1 + r.length = n + (s :: r).length := by simp; omega
    rw [e2, e3]
    rfl

/-- of what was split: the Ids rise, there are few, and their bytes are no more. -/
theorem spl_ok : ∀ (N : Nat) (l : List UInt8) (p : Nat) (hi : Int) (n : Nat) (t : List Pt), l.length ≤ N → spl l p hi n = .ok t → n ≤ 128 →
    rise hi (t.map (·.id)) = true ∧ n + t.length ≤ 128 ∧ (encL (t.map Pt.key)).length ≤ l.length ∧ (∀ s ∈ t, s.bs.length ≤ l.length ∧ p < s.at_ ∧ s.at_ ≤ p + l.length)
  | _, [], p, hi, n, t, _, h, hn => by
    rw [spl_nil] at h
    injection h with h
    subst h
    exact ⟨rfl, by simpa using hn, by simp [encL], by simp⟩
  | 0, _ :: _, _, _, _, _, hl, _, _ => by simp at hl
  | N + 1, x :: r, p, hi, n, t, hl, h, hn => by
    rw [spl_cons] at h
    split at h
    · cases h
    rename_i hf
    split at h
    · cases h
    rename_i hn'
    split at h
    · cases h
    rename_i k j hu
    split at h
    · cases h
    rename_i hk
    cases hs : spl (r.drop (j + k)) (p + 1 + j + k) (max hi x.toNat) (n + 1) with
    | error e => rw [hs] at h; cases h
    | ok u =>
      rw [hs] at h
      injection h with h
      subst h
      obtain ⟨i1, i2, i3, i4⟩ := spl_ok N _ _ _ _ u (by simp at hl ⊢; omega) hs (by omega)
      have hj := uOf_le _ _ _ _ _ hu
      obtain ⟨-, hp⟩ := uOf_short _ _ _ _ _ (by omega) hu
      have hlen : ((r.drop j).take k).length = k := by simp; omega
      refine ⟨?_, by simp; omega, ?_, fun s hs' => ?_⟩
      · simp only [List.singleton_append, List.map_cons, rise, Bool.and_eq_true]
        exact ⟨by simpa using hf, i1⟩
      · simp only [List.singleton_append, List.map_cons, encL_cons, List.length_append, encS_length, Pt.key, hlen, List.length_cons]
        simp at i3
        simp at hp
        omega
      · rcases List.mem_append.1 hs' with h1 | h1
        · simp at h1
          subst h1
          refine ⟨?_, ?_, ?_⟩
          · show ((r.drop j).take k).length ≤ _; rw [hlen]; simp; omega
          · show p < p + 1 + j; omega
          · show p + 1 + j ≤ _; simp; omega
        · obtain ⟨h2, h3, h4⟩ := i4 s h1
          simp at h2 h4 ⊢
          omega
/-- what is split so far is split so with more behind it. -/
theorem spl_app (m : List UInt8) : ∀ (N : Nat) (l : List UInt8) (p : Nat) (hi : Int) (n : Nat) (t : List Pt), l.length ≤ N → spl l p hi n = .ok t →
    spl (l ++ m) p hi n = pre t (spl m (p + l.length) (top hi (t.map (·.id))) (n + t.length))
  | _, [], p, hi, n, t, _, h => by
    rw [spl_nil] at h
    injection h with h
    subst h
    simp [top, pre_nil]
  | 0, _ :: _, _, _, _, _, hl, _ => by simp at hl
  | N + 1, x :: r, p, hi, n, t, hl, h => by
    rw [spl_cons] at h
    rw [List.cons_append, spl_cons]
    split at h
    · cases h
    rename_i hf
    rw [if_neg hf]
    split at h
    · cases h
    rename_i hn'
    rw [if_neg hn']
    split at h
    · cases h
    rename_i k j hu
    rw [uOf_app r m _ _ _ hu]
    dsimp only
    split at h
    · cases h
    rename_i hk
    have hj := uOf_le _ _ _ _ _ hu
    rw [if_neg (by simp; omega)]
    cases hs : spl (r.drop (j + k)) (p + 1 + j + k) (max hi x.toNat) (n + 1) with
    | error e => rw [hs] at h; cases h
    | ok u =>
      rw [hs] at h
      injection h with h
      subst h
      have ih := spl_app m N _ _ _ _ u (by simp at hl ⊢; omega) hs
      rw [List.drop_append_of_le_length hj, List.drop_append_of_le_length (i := j + k) (by omega), List.take_append_of_le_length (by simp; omega), ih, pre_pre]
      have e1 : p + 1 + j + k + (r.drop (j + k)).length = p + (x :: r).length := by simp; omega
      have e2 : n + 1 + u.length = n + ([(⟨x.toNat, p + 1 + j, (r.drop j).take k⟩ : Pt)] ++ u).length := by simp; omega
      rw [e1, e2]
      rfl
/-- one custom section. -/
theorem spl_custom (b : List UInt8) (p : Nat) (hi : Int) (n : Nat) (hn : n < 128) (hb : b.length ≤ 100) (c : UInt8) (hc : c.toNat = b.length) : spl (0 :: c :: b) p hi n = .ok [⟨0, p + 2, b⟩] := by
  have hu : uOf (c :: b) 0 32 = some (b.length, 1) := by
    have h := put_read b.length 32 b (by omega) (by omega)
    rw [putU_small (by omega), if_pos (by omega)] at h
    have e : UInt8.ofNat b.length = c := by
      apply UInt8.toNat_inj.1
      rw [toNat_ofNat (by omega), hc]
    rw [e] at h
    exact h
  rw [spl_cons, if_neg (by simp [fol]), if_neg (by omega), hu]
  dsimp only
  rw [if_neg (by simp), List.drop_eq_nil_of_le (i := 1 + b.length) (by simp; omega), spl_nil]
  simp [pre]
end Go.Proofs.YthkdpcoacjgomaaDoor.Sect
