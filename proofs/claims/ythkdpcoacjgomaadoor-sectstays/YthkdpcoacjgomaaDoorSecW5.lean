/- What SectStays does: its loops, and its walk: it returns true, whatever the input; nothing that was there changes. -/
import Derived.Test.YthkdpcoacjgomaaDoorSecW3
set_option linter.unusedVariables false
set_option linter.unusedSimpArgs false
namespace Go.Proofs.YthkdpcoacjgomaaDoor
open Go.RowKit Trx

theorem Kx.agr {M S : Nat → Prop} {w w' : World} (h : Kx M w w') (hS : ∀ b, S b → b < w.heap.size ∧ ¬ M b) : Agr S w w' := fun b _ hb => World.cell?_of_block (h.block b (hS b hb).1 (hS b hb).2)
/-- a row of bytes that may be written, whatever stands in it. -/
def Wrt (w : World) (g n : Nat) : Prop := ∀ i, i < n → (∃ z : Int, w.cell? ⟨g, i, none⟩ = some (.int .u8 z)) ∧ w.frozen? ⟨g, i, none⟩ = false
theorem Wrt.set {w : World} {g n : Nat} (h : Wrt w g n) (j : Nat) (z : Int) : Wrt (w.setCell ⟨g, j, none⟩ (.int .u8 z)) g n := fun i hi => by
  obtain ⟨⟨x, hx⟩, hf⟩ := h i hi
  refine ⟨?_, ?_⟩
  · by_cases e : i = j
    · subst e
      exact ⟨z, World.cell?_setCell_same _ _ _ hx⟩
    · exact ⟨x, (World.cell?_setCell_other _ _ _ _ (by intro h; injection h with _ h; omega)).trans hx⟩
  · rw [World.frozen?_setCell]
    exact hf
theorem Lies.wrt {w0 w : World} {g : Nat} {bs : List UInt8} (h : Lies w0 w g bs) : Wrt w g bs.length := fun i hi => ⟨⟨_, (h.cell i hi).trans (u8s_get bs i hi)⟩, h.fr i hi⟩
theorem Wrt.below {w w' : World} {g n : Nat} (h : Wrt w g n) (hg : g < w.heap.size) (hb : Below w.heap.size w w') : Wrt w' g n := fun i hi => by
  obtain ⟨⟨x, hx⟩, hf⟩ := h i hi
  exact ⟨⟨x, (hb.cell (p := ⟨g, i, none⟩) hg).trans hx⟩, (hb.frozen (p := ⟨g, i, none⟩) hg).trans hf⟩
theorem eql_nil_nil (w : World) : (binOp .eql 26 .nilIface .nilIface).run Tryd.prog w = .ok (.bool true) w := by
  have h : ∀ d, (Op.equalIn (d + 2) 26 .nilIface .nilIface).run Tryd.prog w = .ok true w := fun d => by
    simp [Op.equalIn, run_underlying Tryd.underlying26]
  simp only [binOp]
  simp [Op.equal, Op.maxDepth, h 9998]
theorem eql_iface_nil (t : TypeId) (v : Value) (w : World) : (binOp .eql 26 (.iface t v) .nilIface).run Tryd.prog w = .ok (.bool false) w := by
  have h : ∀ d, (Op.equalIn (d + 2) 26 (.iface t v) .nilIface).run Tryd.prog w = .ok false w := fun d => by
    simp [Op.equalIn, run_underlying Tryd.underlying26]
  simp only [binOp]
  simp [Op.equal, Op.maxDepth, h 9998]
theorem guard_nil (x : Operand) (w : World) : (eqGuard .eql 26 x (.const .nilIface) .nilIface .nilIface).run Tryd.prog w = .ok () w := by
  simp [eqGuard]
theorem guard_iface (x : Operand) (t : TypeId) (v : Value) (w : World) : (eqGuard .eql 26 x (.const .nilIface) (.iface t v) .nilIface).run Tryd.prog w = .ok () w := by
  simp [eqGuard]
def okl : Except (Nat × Nat) (List Sect.Pt) → List Sect.Pt
  | .error _ => []
  | .ok t => t
def okb : Except (Nat × Nat) (List Sect.Pt) → Bool
  | .error _ => false
  | .ok _ => true
/-- Split, whatever comes of it. -/
theorem Split_u (A : Option Addr) (c : Nat) (bs : List UInt8) (w : World) (hs : Sl w w.heap.size A (u8s bs)) (hc : bs.length ≤ c) (hm : c ≤ maxLen) (hL : bs.length ≤ 100000000) :
    Calls Tryd.prog 9 #[.slice A bs.length c] w fun e w' => ∃ A' l c' ev, e = .returned (.tuple #[.slice A' (List.length l) c', ev]) ∧ l.map Sc.tr = (okl (Sect.split bs)).map ptr ∧ NewSecs (Win w.heap.size w') w' A' l ∧ Below w.heap.size w w' ∧ l.length ≤ 128 ∧
      ∀ w2, (binOp .eql 26 ev .nilIface).run Tryd.prog w2 = .ok (.bool (okb (Sect.split bs))) w2 ∧ ∀ x, (eqGuard .eql 26 x (.const .nilIface) ev .nilIface).run Tryd.prog w2 = .ok () w2 := by
  have h := Split_any A c bs w hs hc hm hL
  cases hr : Sect.split bs with
  | error er =>
    obtain ⟨k, p⟩ := er
    rw [hr] at h
    refine h.mono ?_
    rintro e w' ⟨v, rfl, ⟨b, o, rfl, h1, h2⟩, hb⟩
    exact ⟨none, [], 0, _, rfl, rfl, fun _ _ => SecsAt.nil_, hb, by simp, fun w2 => ⟨eql_iface_nil _ _ w2, fun x => guard_iface x _ _ w2⟩⟩
  | ok t =>
    rw [hr] at h
    refine h.mono ?_
    rintro e w' ⟨A', l, c', rfl, ht, h1, h2, h3, h4⟩
    have hl : l.length = t.length := by simpa using congrArg List.length ht
    exact ⟨A', l, c', _, rfl, ht, h3, h4, by rw [hl]; exact (Sect.split_ok bs t hr).2.2.1, fun w2 => ⟨eql_nil_nil w2, fun x => guard_nil x w2⟩⟩
/-- what Join tells. -/
def jnR (l : List Sc) : List UInt8 := if mayJ l = true then jnB l else []
/-- Join, whatever comes of it. -/
theorem Join_u (l : List Sc) (A : Option Addr) (c : Nat) (w : World) (hs : SecsAt w w.heap.size A l) (hl : l.length ≤ 1000000) (hL : (jnB l).length ≤ 100000000) :
    Calls Tryd.prog 14 #[.slice A l.length c] w fun e w' => ∃ A' n c' ev g, e = .returned (.tuple #[.slice A' n c', ev]) ∧ n = (jnR l).length ∧ Sl w' w'.heap.size A' (u8s (jnR l)) ∧ Below w.heap.size w w' ∧ w.heap.size ≤ g ∧ (∀ i, i < n → A' = some ⟨g, 0, none⟩) ∧ Wrt w' g n ∧
      ∀ w2, (binOp .eql 26 ev .nilIface).run Tryd.prog w2 = .ok (.bool (mayJ l)) w2 ∧ ∀ x, (eqGuard .eql 26 x (.const .nilIface) ev .nilIface).run Tryd.prog w2 = .ok () w2 := by
  have h := Join_any l A c w hs hl hL
  unfold JoinR at h
  cases hm : mayJ l
  · rw [hm] at h
    have e0 : jnR l = [] := by unfold jnR; rw [hm]; rfl
    refine h.mono ?_
    rintro e w' ⟨rfl, hb⟩
    exact ⟨none, 0, 0, _, w.heap.size, rfl, by rw [e0]; rfl, by rw [e0]; exact Sl.nil_, hb, Nat.le_refl _, fun i hi => absurd hi (by omega), fun i hi => absurd hi (by omega), fun w2 => ⟨eql_iface_nil _ _ w2, fun x => guard_iface x _ _ w2⟩⟩
  · rw [hm] at h
    have e0 : jnR l = jnB l := by unfold jnR; rw [hm]; rfl
    refine h.mono ?_
    rintro e w' ⟨g, c', rfl, h1, h2, h3⟩
    exact ⟨_, _, c', _, g, rfl, by rw [e0], by rw [e0]; exact h3.sl, h3.below, h3.ge, fun _ _ => rfl, h3.wrt, fun w2 => ⟨eql_nil_nil w2, fun x => guard_nil x w2⟩⟩
theorem jnB_key {la lb : List Sc} (h : la.map Sc.key = lb.map Sc.key) : jnB la = jnB lb := by unfold jnB; rw [h]
theorem mayJ_key {la lb : List Sc} (h : la.map Sc.key = lb.map Sc.key) : mayJ la = mayJ lb := by
  have h1 : la.map (·.id) = lb.map (·.id) := by rw [← key_fst, ← key_fst, h]
  have h2 : la.length = lb.length := by simpa using congrArg List.length h
  unfold mayJ
  rw [h1, h2]
theorem jnR_key {la lb : List Sc} (h : la.map Sc.key = lb.map Sc.key) : jnR la = jnR lb := by unfold jnR; rw [mayJ_key h, jnB_key h]
theorem wanted_yes' {c : Prop} [Decidable c] {A B : Prop} (h : c) (k : A) : if c then A else B := by rw [if_pos h]; exact k
/-- 'append(v, x)', v a row of the call's own, x lies somewhere; as an operation by itself. -/
theorem op_pushK {P : Program} {e : TypeId} {k : Nat} {w : World} {o : Oper} {a : Act} {K : Act → World → Prop} {Q : Exit → Act → World → Prop} {B : Nat} {w0 : World} {v : Value} {rs : List (List Value)} (s x : Operand) (t : TypeId) (ho : o.op = .call { callee := .builtin .append, args := #[s, x], argTypes := #[t, t] }) (y : Nat) (ht : P.underlying t = some (.slice e)) (hE : ElemK P e k y) (hk : 0 < k)
    (row : List Value) (c n : Nat) (hs : a.eval s = v) (h : OwnK B w0 w e k v rs) (hx : a.eval x = .slice (some ⟨n, 0, none⟩) 1 c) (hr : row.length = k) (hcell : ∀ j u, row[j]? = some u → w.cell? ⟨n, j, none⟩ = some u) (h1 : ∀ u ∈ row, u.oneCell' = true) (hby : (rs.length + 1) * y ≤ 140737488355328) (hm : rs.length + 1 ≤ maxLen)
    (cont : ∀ v' w', OwnK B w0 w' e k v' (rs ++ [row]) → (∀ m, m < w.heap.size → v.ownBlock ≠ some m → w'.heap[m]? = w.heap[m]? ∧ v'.ownBlock ≠ some m) → w.heap.size ≤ w'.heap.size → K (a.put o.dst v') w') : Oper.wp P o a w K Q := by
  obtain ⟨i, z, hi, hz, hsz, hyy, hzs⟩ := hE
  obtain ⟨v', w', hrun, h2, h3, _, h5⟩ := run_append_own_at (P := P) w B t o.type e i z k y ht hi hz hsz hyy hzs hk v rs.length rs.flatten h.row ⟨n, 0, none⟩ 1 c row (by simp [hr]) (fun j u hj => by rw [add_at, Nat.zero_add]; exact hcell j u hj) h1 hm hby h.le
  have hown : OwnK B w0 w' e k v' (rs ++ [row]) := by
    refine ⟨by simpa using h2, fun r hr' => ?_, h.below.grown h3 h.le (fun g hg' => (h.row.lt g hg').1), Nat.le_trans h.le h3.size⟩
    rcases List.mem_append.1 hr' with h6 | h6
    · exact h.len r h6
    · simp at h6
      subst h6
      exact hr
  unfold Oper.wp execOp
  simp only [ho, resolve, invoke, builtin, Sem.run_bind, Sem.run_pure, Result.andThen_ok, List.map_toArray, List.map_cons, List.map_nil, hs, hx, hrun]
  refine cont v' w' hown (fun m hm' hne => ⟨h3.block m hm' (fun e => hne e.symm), ?_⟩) h3.size
  rcases h5 with h5 | h5
  · rw [h5]; exact hne
  · rw [h5]; simp; omega
/-- what was copied so far. -/
def MnL (l : List Sc) (w : World) (v i : Value) (wr : World) : Prop := ∃ (j : Nat) (acc : List Sc), i = .int .i64 j ∧ j ≤ l.length ∧ Hid (acc.map Sc.tr = (l.take j).map Sc.tr) ∧ OwnK w.heap.size w wr 34 3 v (acc.map Sc.cells) ∧ ∀ s ∈ acc, NewSc (CpS w.heap.size wr v) wr s
theorem keys_tr {la lb : List Sc} (h : la.map Sc.tr = lb.map Sc.tr) : la.map Sc.key = lb.map Sc.key := by
  have := congrArg (List.map fun q : Int × Int × List UInt8 => (q.1, q.2.2)) h
  rw [List.map_map, List.map_map] at this
  exact this
end Go.Proofs.YthkdpcoacjgomaaDoor
