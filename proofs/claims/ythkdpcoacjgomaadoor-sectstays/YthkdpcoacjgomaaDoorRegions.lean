/- Two small laws for a region that draws its order of evaluation: as those of the library, with the slot said outright. Plain lemmas, no condition. -/
import Derived.Test.YthkdpcoacjgomaaDoorMem
import Derived.Deep.RegionHeld
import Derived.Below
set_option linter.unusedVariables false
set_option linter.unusedSimpArgs false
namespace Go.Proofs.YthkdpcoacjgomaaDoor
open Go.RowKit

section
variable {P : Program} {ops : Array Oper} {Q : Exit → Act → World → Prop} {md : Region.Mode} {S : World → Prop}
theorem region_take (i : Nat) (d : Option Nat) {oi : Oper} {v : Value} {fuel : Nat} {listed : Array Bool} {a : Act} {w : World} (hi : ops[i]? = some oi) (hd : oi.dst = d)
    (hs : Region.noSelect ops = true) (hf : Region.free md ops listed i = true) (hr : (Region.ready md ops listed).contains i = true)
    (hQ : ∀ c a w, Q (.panic c) (a.put d v) w → Q (.panic c) a w) (hw : Region.wanted oi (yielded ops a.tmps) = true) (hy : ∀ w, S w → (execOp a.eval oi).run P w = .ok (.value v) w) (hS : S w)
    (h : wpAnyH P md ops Q S fuel (listed.setIfInBounds i true) (a.put d v) w) : wpAnyH P md ops Q S (fuel + 1) listed a w := by
  subst hd
  exact wpAnyH_take hi hs hf hr hQ (Or.inl ⟨hw, hy⟩) hS h
/-- an operation whose guard says no. -/
theorem region_skip (i : Nat) (d : Option Nat) {oi : Oper} {fuel : Nat} {listed : Array Bool} {a : Act} {w : World} (hi : ops[i]? = some oi) (hd : oi.dst = d)
    (hs : Region.noSelect ops = true) (hf : Region.free md ops listed i = true) (hr : (Region.ready md ops listed).contains i = true)
    (hQ : ∀ c a w, Q (.panic c) (a.put d undef) w → Q (.panic c) a w) (hw : Region.wanted oi (yielded ops a.tmps) = false) (hS : S w)
    (h : wpAnyH P md ops Q S fuel (listed.setIfInBounds i true) (a.put d undef) w) : wpAnyH P md ops Q S (fuel + 1) listed a w := by
  subst hd
  exact wpAnyH_take hi hs hf hr hQ (Or.inr ⟨hw, rfl⟩) hS h
end

end Go.Proofs.YthkdpcoacjgomaaDoor

/- A region that draws its order of evaluation, by an invariant of what has come up. Plain lemma, no condition. -/
namespace Go.Proofs.YthkdpcoacjgomaaDoor
open Go.RowKit

section
variable {P : Program} {ops : Array Oper} {Q : Exit → Act → World → Prop} {md : Region.Mode} {S : World → Prop}
theorem wpAnyH_inv (I : Array Bool → Act → World → Prop) (hS : ∀ l a w, I l a w → S w)
    (step : ∀ l a w, I l a w → wpAnyH P md ops Q S (l.toList.count false) l a w ∨ (Region.ready md ops l ≠ [] ∧ ∀ i, i ∈ Region.ready md ops l → wpOp P ops Q i (fun a' w' => I (l.setIfInBounds i true) a' w') a w)) :
    ∀ (fuel : Nat) (l : Array Bool) (a : Act) (w : World), l.toList.count false = fuel → I l a w → wpAnyH P md ops Q S fuel l a w := by
  have hin : ∀ (l : Array Bool) i, i ∈ Region.ready md ops l → l.toList[i]? = some false := fun l i hi => by
    have h := (mem_ready.1 hi).1
    rw [Array.getElem?_toList]
    rcases Nat.lt_or_ge i l.size with h1 | h1
    · simp only [Array.getD, h1, dif_pos] at h
      rw [Array.getElem?_eq_getElem h1]
      exact congrArg some h
    · simp only [Array.getD, Nat.not_lt.2 h1, dif_neg, not_false_eq_true] at h
      cases h
  intro fuel
  induction fuel with
  | zero =>
    intro l a w hc hI
    rcases step l a w hI with h | ⟨hne, -⟩
    · rwa [hc] at h
    · refine absurd (List.eq_nil_iff_forall_not_mem.2 fun i hi => ?_) hne
      have h := List.mem_of_getElem? (hin l i hi)
      have := List.count_pos_iff.2 h
      omega
  | succ fuel ih =>
    intro l a w hc hI
    rcases step l a w hI with h | ⟨hne, hst⟩
    · rwa [hc] at h
    refine ⟨fun hr => absurd hr hne, fun i hi => ?_⟩
    refine wpOp_mono (fun a' w' h => ⟨hS _ _ _ h, ih _ _ _ ?_ h⟩) (hst i hi)
    have h := hin l i hi
    obtain ⟨hlt, he⟩ := List.getElem?_eq_some_iff.1 h
    have hpos := List.count_pos_iff.2 (List.mem_of_getElem? h)
    have hset : (l.setIfInBounds i true).toList = l.toList.set i true := by simp
    rw [hset, List.count_set hlt, he]
    simp at hc hpos ⊢
    omega
end

/-! ### A region whose every operation leaves a value of a known kind in a slot of its own, and changes nothing older; the last one waits for all -/
def aft (ops : Array Oper) (i : Nat) : List Edge := match ops[i]? with
  | some o => o.after.toList
  | none => []
/-- the frame and the world on the way. -/
structure Bs (n : Nat) (d : Nat → Nat) (a0 : Act) (w0 : World) (a : Act) (w : World) : Prop where
  size : a.tmps.size = a0.tmps.size
  defers : a.defers = a0.defers
  same : ∀ j, (∀ i, i < n → d i ≠ j) → a.eval (.tmp j) = a0.eval (.tmp j)
  below : Below w0.heap.size w0 w
theorem eval_put (a : Act) (d j : Nat) (v : Value) : (a.put (some d) v).eval (.tmp j) = if j = d ∧ d < a.tmps.size then v else a.eval (.tmp j) := by
  simp only [Act.put, Act.eval, Array.getD_eq_getD_getElem?, Array.getElem?_setIfInBounds]
  by_cases e : d = j
  · subst e
    by_cases h : d < a.tmps.size
    · simp [h]
    · simp [h]
  · have e' : ¬ j = d := fun h => e h.symm
    simp [e, e']
theorem size_put (a : Act) (d : Nat) (v : Value) : (a.put (some d) v).tmps.size = a.tmps.size := by simp [Act.put]
theorem defers_put (a : Act) (d : Option Nat) (v : Value) : (a.put d v).defers = a.defers := by cases d <;> rfl
section
variable {P : Program} {ops : Array Oper} {Q : Exit → Act → World → Prop}
/-- the first n have come up. -/
def listN (n N : Nat) : Array Bool := (List.replicate n true ++ List.replicate (N - n) false).toArray
theorem region_vals {id : Nat} (n N : Nat) (V : Nat → Value → World → Prop) (d : Nat → Nat) (a0 : Act) (w0 : World) (hm : P.follows .mixedOrders = true) (hN : ops.size = N) (hn : n < N)
    (hac : ((List.range N).all fun i => (aft ops i).all fun e => decide (e.on < i)) = true)
    (hcl : ((List.range n).all fun k => (List.range (n + 1)).any fun k' => decide (k < k') && (aft ops k').any fun e => Region.binds .any e && e.on == k) = true)
    (hex : ((List.range N).all fun k => decide (k ≤ n) || (aft ops k).any fun e => Region.binds .any e && e.on == n) = true)
    (hinj : ((List.range n).all fun i => decide (d i < a0.tmps.size) && (List.range n).all fun j => i == j || !(d i == d j)) = true)
    (mono : ∀ i v w w', V i v w → Below w.heap.size w w' → V i v w')
    (step : ∀ i, i < n → ∀ a w, Bs n d a0 w0.drew a w → (∀ e ∈ aft ops i, Region.binds .any e = true → V e.on (a.eval (.tmp (d e.on))) w) → wpOp P ops Q i (fun a' w' => ∃ v, a' = a.put (some (d i)) v ∧ Below w.heap.size w w' ∧ V i v w') a w)
    (fin : ∀ a w, Bs n d a0 w0.drew a w → (∀ k, k < n → V k (a.eval (.tmp (d k))) w) → wpAnyH P .any ops Q (fun _ => True) (N - n) (listN n N) a w) :
    (Code.region id ops true).wp P Q a0 w0 := by
  have hac' : ∀ i, i < N → ∀ e ∈ aft ops i, e.on < i := fun i hi e he => by
    have := List.all_eq_true.1 (List.all_eq_true.1 hac i (List.mem_range.2 hi)) e he
    simpa using this
  have hin : ∀ i j, i < n → j < n → d i = d j → i = j := fun i j hi hj e => by
    have h1 := List.all_eq_true.1 hinj i (List.mem_range.2 hi)
    rw [Bool.and_eq_true] at h1
    have := List.all_eq_true.1 h1.2 j (List.mem_range.2 hj)
    simp [e] at this
    exact this
  have hdl : ∀ i, i < n → d i < a0.tmps.size := fun i hi => by
    have h1 := List.all_eq_true.1 hinj i (List.mem_range.2 hi)
    rw [Bool.and_eq_true] at h1
    simpa using h1.1
  have haft : ∀ {i : Nat} {o : Oper}, ops[i]? = some o → ∀ e, e ∈ o.after ↔ e ∈ aft ops i := fun {i o} ho e => by simp [aft, ho]
  refine wp_region_held_drew (S := fun _ => True) hm trivial (fun _ => ?_)
  refine wpAnyH_inv (fun l a w => l.size = N ∧ (∀ k, n ≤ k → k < N → l.getD k true = false) ∧ Bs n d a0 w0.drew a w ∧ (∀ k, k < n → l.getD k true = true → ∀ e ∈ aft ops k, Region.binds .any e = true → l.getD e.on true = true) ∧
    ∀ k, k < n → l.getD k true = true → V k (a.eval (.tmp (d k))) w) (fun _ _ _ _ => trivial) ?_ _ _ _ _ ?_ ?_
  · intro l a w ⟨hl, hln, hB, hcd, hV⟩
    have hgd : ∀ k, k < N → l.getD k false = l.getD k true := fun k hk => by simp [Array.getD, hl, hk]
    have hgt : ∀ k, N ≤ k → l.getD k true = true := fun k hk => by simp [Array.getD, hl, Nat.not_lt.2 hk]
    by_cases hfull : ∀ k, k < n → l.getD k true = true
    · refine .inl ?_
      have hlN : l = listN n N := by
        apply Array.ext
        · simp [listN, hl]; omega
        · intro i h1 h2
          have h3 : l.getD i true = l[i] := by simp [Array.getD, h1]
          rw [← h3]
          by_cases e : i < n
          · rw [hfull i e]
            simp [listN, List.getElem_append, e]
          · rw [hln i (by omega) (by omega)]
            simp [listN, List.getElem_append, e]
      have hc : l.toList.count false = N - n := by
        rw [hlN]
        simp [listN, List.count_append, List.count_replicate]
      rw [hc, hlN]
      exact fin a w hB fun k hk => hV k hk (hfull k hk)
    · refine .inr ⟨fun hr => hfull ?_, fun i hi => ?_⟩
      · -- the first one that has not come up may come up
        intro k
        induction k using Nat.strongRecOn with
        | ind k ih =>
          intro hk
          rcases h : l.getD k true with _ | _
          · exfalso
            have hok : ∃ o, ops[k]? = some o := ⟨ops[k]'(by omega), Array.getElem?_eq_getElem _⟩
            obtain ⟨o, ho⟩ := hok
            have : k ∈ Region.ready .any ops l := mem_ready.2 ⟨h, o, ho, fun e he _ => by
              have he' := hac' k (by omega) e ((haft ho e).1 he)
              rw [hgd _ (by omega)]
              exact ih e.on he' (by omega)⟩
            rw [hr] at this
            cases this
          · rfl
      · obtain ⟨hun, o, ho, hdep⟩ := mem_ready.1 hi
        have hilt : i < N := by
          rw [← hN]
          exact (Array.getElem?_eq_some_iff.1 ho).1
        have hdep' : ∀ e ∈ aft ops i, Region.binds .any e = true → l.getD e.on true = true := fun e he hb => by
          have h2 := hdep e ((haft ho e).2 he) hb
          have he' := hac' i hilt e he
          rwa [hgd e.on (by omega)] at h2
        rcases Nat.lt_or_ge i n with hi' | hi'
        · have hs := step i hi' a w hB fun e he hb => hV e.on (Nat.lt_trans (hac' i hilt e he) hi') (hdep' e he hb)
          refine wpOp_mono (fun a' w' h => ?_) hs
          obtain ⟨v, rfl, hbel, hv⟩ := h
          have hda : d i < a.tmps.size := by rw [hB.size]; exact hdl i hi'
          have hset : ∀ k, l.getD k true = true → (l.setIfInBounds i true).getD k true = true := fun k hk => by
            by_cases e : k = i
            · subst e
              simp [Array.getD]
            · rw [getD_set_ne true (fun h => e h.symm)]; exact hk
          have hone : ∀ k, k ≠ i → (l.setIfInBounds i true).getD k true = l.getD k true := fun k e => getD_set_ne true (fun h => e h.symm)
          refine ⟨by simp [hl], fun k h1 h2 => by rw [hone k (by omega)]; exact hln k h1 h2, ⟨by rw [size_put, hB.size], by rw [defers_put, hB.defers], fun j hj => ?_, hB.below.trans (hbel.mono hB.below.size)⟩, fun k hk hlk e he hb => ?_, fun k hk hlk => ?_⟩
          · rw [eval_put, if_neg (fun h => hj i hi' h.1.symm)]
            exact hB.same j hj
          · by_cases ek : k = i
            · subst ek
              exact hset _ (hdep' e he hb)
            · rw [hone k ek] at hlk
              exact hset _ (hcd k hk hlk e he hb)
          · by_cases e : k = i
            · subst e
              rw [eval_put, if_pos ⟨rfl, hda⟩]
              exact hv
            · rw [eval_put, if_neg (fun h => e (hin k i hk hi' h.1))]
              rw [hone k e] at hlk
              exact mono k _ w w' (hV k hk hlk) hbel
        · exfalso
          rcases Nat.lt_or_ge n i with hlt | hle
          · have h1 := List.all_eq_true.1 hex i (List.mem_range.2 hilt)
            rw [Bool.or_eq_true] at h1
            rcases h1 with h1 | h1
            · simp at h1; omega
            · obtain ⟨x, hx, hx2⟩ := List.any_eq_true.1 h1
              simp only [Bool.and_eq_true, beq_iff_eq] at hx2
              have h2 := hdep' x hx hx2.1
              rw [hx2.2, hln n (Nat.le_refl _) hn] at h2
              cases h2
          · obtain rfl : i = n := by omega
            -- all before it have come up: from the last one down
            refine hfull ?_
            have key : ∀ q k, k < i → i - k ≤ q → l.getD k true = true := by
              intro q
              induction q with
              | zero => intro k hk hq; omega
              | succ q ih =>
                intro k hk hq
                have h1 := List.all_eq_true.1 hcl k (List.mem_range.2 hk)
                obtain ⟨k', hk', hx⟩ := List.any_eq_true.1 h1
                rw [Bool.and_eq_true] at hx
                obtain ⟨x, hx1, hx2⟩ := List.any_eq_true.1 hx.2
                simp only [Bool.and_eq_true, beq_iff_eq] at hx2
                have hkk : k < k' := by simpa using hx.1
                have hk'n : k' < i + 1 := List.mem_range.1 hk'
                have hx3 := hx2.2
                subst hx3
                by_cases e : k' = i
                · subst e
                  exact hdep' x hx1 hx2.1
                · exact hcd k' (by omega) (ih k' (by omega) (by omega)) x hx1 hx2.1
            exact fun k hk => key i k hk (by omega)
  · rw [hN]
    simp
  · refine ⟨by simp [hN], fun k _ hk => by simp [Array.getD, hN, hk], ⟨rfl, rfl, fun _ _ => rfl, Below.refl _ _⟩, fun k hk hlk => ?_, fun k hk hlk => ?_⟩ <;>
    · have h3 : k < N := by omega
      simp [Array.getD, hN, h3] at hlk
/-- an operation that yields its value and does nothing else. -/
theorem op_val {o : Oper} {a : Act} {w : World} {K : Act → World → Prop} (v : Value) (h : (execOp a.eval o).run P w = .ok (.value v) w) (hK : K (a.put o.dst v) w) : Oper.wp P o a w K Q := by
  unfold Oper.wp
  rw [h]
  exact hK
/-- an operation without a guard. -/
theorem op_plain {i : Nat} {o : Oper} {a : Act} {w : World} {K : Act → World → Prop} (ho : ops[i]? = some o) (hg : o.guard = none) (h : Oper.wp P o a w K Q) : wpOp P ops Q i K a w := by
  unfold wpOp
  rw [ho]
  have hw : Region.wanted o (yielded ops a.tmps) = true := by simp [Region.wanted, hg]
  simp only [hw, if_true]
  exact .inl h
/-- one operation alone may come up. -/
theorem ready_one {i fuel : Nat} {o : Oper} {listed : Array Bool} {a : Act} {w : World} (hr : Region.ready .any ops listed = [i]) (ho : ops[i]? = some o) (hg : o.guard = none)
    (h : Oper.wp P o a w (fun a' w' => wpAnyH P .any ops Q (fun _ => True) fuel (listed.setIfInBounds i true) a' w') Q) : wpAnyH P .any ops Q (fun _ => True) (fuel + 1) listed a w := by
  refine ⟨fun h0 => absurd (hr.symm.trans h0) (by simp), fun j hj => ?_⟩
  rw [hr] at hj
  simp at hj
  subst hj
  exact wpOp_mono (fun _ _ h => ⟨trivial, h⟩) (op_plain ho hg h)
theorem ready_none {fuel : Nat} {listed : Array Bool} {a : Act} {w : World} (hr : Region.ready .any ops listed = []) (h : Q .normal a w) : wpAnyH P .any ops Q (fun _ => True) fuel listed a w := by
  cases fuel with
  | zero => exact ⟨hr, h⟩
  | succ n => exact ⟨fun _ => h, fun j hj => by rw [hr] at hj; simp at hj⟩
end
end Go.Proofs.YthkdpcoacjgomaaDoor
