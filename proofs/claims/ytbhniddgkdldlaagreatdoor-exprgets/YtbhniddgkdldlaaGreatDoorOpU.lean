/- A row of the call's own whose elements are of five cells (the reference's rows): what is owned, and that append adds one; other blocks of the call stay. Plain definitions and lemmas, no condition. -/
import Derived.Test.YtbhniddgkdldlaaGreatDoorOpT
import Derived.Laws.Concat
set_option linter.unusedVariables false
set_option linter.unusedSimpArgs false
namespace Go.Proofs.YtbhniddgkdldlaaGreatDoor
open Go.RowKit

/-- a row of the reference's table, as cells. -/
def cellsR (r : Opx.R) : List Value := [.int .i64 r.byte, .string ⟨r.name.toArray⟩, .int .i64 r.kind, .string ⟨r.types.toArray⟩, .int .i64 r.bytes]
def flatR (rs : List Opx.R) : List Value := rs.flatMap cellsR
theorem flatR_length (rs : List Opx.R) : (flatR rs).length = rs.length * 5 := by
  induction rs with
  | nil => rfl
  | cons r rs ih => simp only [flatR, List.flatMap_cons, List.length_append] at ih ⊢; rw [ih]; simp [cellsR]; omega
theorem flatR_append (rs ts : List Opx.R) : flatR (rs ++ ts) = flatR rs ++ flatR ts := by simp [flatR]
theorem flatR_get (rs : List Opx.R) (i k : Nat) (hi : i < rs.length) (hk : k < 5) : (flatR rs)[i * 5 + k]? = (cellsR rs[i])[k]? := by
  induction rs generalizing i with
  | nil => simp at hi
  | cons r rs ih =>
    have e : flatR (r :: rs) = cellsR r ++ flatR rs := by simp [flatR]
    have hl : (cellsR r).length = 5 := rfl
    rw [e]
    cases i with
    | zero => rw [List.getElem?_append_left (by rw [hl]; omega)]; simp
    | succ i =>
      rw [List.getElem?_append_right (by rw [hl]; omega), hl, show (i + 1) * 5 + k - 5 = i * 5 + k by omega, ih i (by simpa using hi)]
      simp

structure OwnR (B : Nat) (w0 w : World) (v : Value) (rs : List Opx.R) : Prop where
  row : w.ownsRow B 111 5 v rs.length (flatR rs)
  below : Below B w0 w
  le : B ≤ w.heap.size

theorem row_info : ∃ i z, Tryz.prog.info? 111 = some i ∧ i.zero = some z ∧ i.size = 5 ∧ i.bytes = 56 ∧ z.cells.size = 5 := by
  obtain ⟨i, h1, h2, h3, h4⟩ := info_parts (show (Tryz.prog.info? 111).map (fun i => (i.zero, i.size, i.bytes)) = some (some (.agg #[.int .i64 0, .string ⟨#[]⟩, .int .i64 0, .string ⟨#[]⟩, .int .i64 0]), 5, 56) by kernel_rfl)
  exact ⟨i, _, h1, h2, h3, h4, rfl⟩

section
variable {B : Nat} {w0 w w' : World} {v : Value} {rs : List Opx.R}
theorem OwnR.drewN (h : OwnR B w0 w v rs) (n : Nat) : OwnR B w0 (w.drewN n) v rs := ⟨h.row, ⟨h.below.os, h.below.tape, h.below.output, h.below.size, h.below.block⟩, h.le⟩
theorem OwnR.lt (h : OwnR B w0 w v rs) (hne : 0 < rs.length) : ∃ g c, v = .slice (some ⟨g, 0, none⟩) rs.length c ∧ B ≤ g ∧ g < w.heap.size ∧ rs.length ≤ c ∧ c ≤ maxLen ∧
    ∀ i k, i < rs.length → k < 5 → w.cell? ⟨g, i * 5 + k, none⟩ = (cellsR (rs.getD i default))[k]? := by
  have hrow := h.row
  rcases h.row.2 with ⟨_, hn⟩ | ⟨g, cap, cur, rfl, hg, hcur, hle, hm, hsz, htk⟩
  · omega
  · refine ⟨g, cap, rfl, hg, ?_, hle, hm, fun i k hi hk => ?_⟩
    · rcases Nat.lt_or_ge g w.heap.size with h1 | h1
      · exact h1
      · rw [Array.getElem?_eq_none h1] at hcur; cases hcur
    · rw [hrow.cellAt (i * 5 + k) (by omega), flatR_get rs i k hi hk, List.getD_eq_getElem?_getD, List.getElem?_eq_getElem hi]
      rfl
/-- 'v = append(v, r)', v a row of the call's own: behind it the row with r; a block that is not v's own stays, and does not become v's own. -/
theorem wpList_pushR {ops : Array Oper} {rest : List Oper} {o : Oper} {a : Act} {Q : Exit → Act → World → Prop} (hgd : o.guard = none) (s x : Operand)
    (ho : o.op = .call { callee := .builtin .append, args := #[s, x], argTypes := #[108, 108] })
    (r : Opx.R) (c : Nat) (hs : a.eval s = v) (h : OwnR B w0 w v rs) (hx : a.eval x = .slice (some ⟨w.heap.size, 0, none⟩) 1 c) (hlen : rs.length < 1000000)
    (k : ∀ v' w', OwnR B w0 w' v' (rs ++ [r]) → (∀ m, m < w.heap.size → v.ownBlock ≠ some m → w'.heap[m]? = w.heap[m]? ∧ v'.ownBlock ≠ some m) → w.heap.size ≤ w'.heap.size → wpList Tryz.prog ops Q rest (a.put o.dst v') w') :
    wpList Tryz.prog ops Q (o :: rest) a (w.alloc (.cells #[.int .i64 r.byte, .string ⟨r.name.toArray⟩, .int .i64 r.kind, .string ⟨r.types.toArray⟩, .int .i64 r.bytes] 111)) := by
  obtain ⟨i, z, hi, hz, h1, hby, hzs⟩ := row_info
  have hcells : ∀ j u, (cellsR r)[j]? = some u → (w.alloc (.cells #[.int .i64 r.byte, .string ⟨r.name.toArray⟩, .int .i64 r.kind, .string ⟨r.types.toArray⟩, .int .i64 r.bytes] 111)).cell? ((⟨w.heap.size, 0, none⟩ : Addr).add j) = some u := by
    intro j u hj
    have e : (⟨w.heap.size, 0, none⟩ : Addr).add j = ⟨w.heap.size, j, none⟩ := by unfold Addr.add; split <;> simp_all
    rw [e, World.cell?_alloc_at _ _ _ _ rfl]
    simpa [cellsR] using hj
  have hle := h.le
  obtain ⟨v', w', hrun, h2, h3, _, h5⟩ := run_append_own_at (P := Tryz.prog) (w.alloc (.cells #[.int .i64 r.byte, .string ⟨r.name.toArray⟩, .int .i64 r.kind, .string ⟨r.types.toArray⟩, .int .i64 r.bytes] 111)) B 108 o.type 111 i z 5 56 Tryz.underlying108 hi hz h1 hby hzs (by decide) v rs.length (flatR rs) (h.row.alloc _) ⟨w.heap.size, 0, none⟩ 1 c (cellsR r) rfl hcells
    (by intro u hu; simp [cellsR] at hu; rcases hu with rfl | rfl | rfl | rfl | rfl <;> rfl) (by simp only [maxLen]; omega) (by omega) (by simp; omega)
  have hown : OwnR B w0 w' v' (rs ++ [r]) := by
    refine ⟨by simpa [flatR_append, flatR] using h2, (h.below.alloc h.le _).grown h3 (by simp; omega) (fun g hg' => (h.row.lt g hg').1), ?_⟩
    have := h3.size; simp at this; omega
  refine wpList_plain hgd fun _ hK => ?_
  unfold Oper.wp execOp
  simp only [ho, resolve, invoke, builtin, Sem.run_bind, Sem.run_pure, Result.andThen_ok, List.map_toArray, List.map_cons, List.map_nil, hs, hx, hrun]
  refine hK _ _ (k v' w' hown (fun m hm hne => ⟨?_, ?_⟩) (by have := h3.size; simp at this; omega))
  · rw [h3.block m (by simp; omega) (fun e => hne e.symm), Below.heap_alloc _ _ _ hm]
  · rcases h5 with h5 | h5
    · rw [h5]; exact hne
    · rw [h5]; simp; omega
/-- the same, the cells told one by one. -/
theorem wpList_pushV {ops : Array Oper} {rest : List Oper} {o : Oper} {a : Act} {Q : Exit → Act → World → Prop} {b ki y : Int} {n t : ByteArray} (hgd : o.guard = none) (s x : Operand)
    (ho : o.op = .call { callee := .builtin .append, args := #[s, x], argTypes := #[108, 108] })
    (r : Opx.R) (c : Nat) (hs : a.eval s = v) (h : OwnR B w0 w v rs) (hx : a.eval x = .slice (some ⟨w.heap.size, 0, none⟩) 1 c) (hlen : rs.length < 1000000)
    (hr : r.byte = b ∧ ⟨r.name.toArray⟩ = n ∧ r.kind = ki ∧ ⟨r.types.toArray⟩ = t ∧ r.bytes = y)
    (k : ∀ v' w', OwnR B w0 w' v' (rs ++ [r]) → (∀ m, m < w.heap.size → v.ownBlock ≠ some m → w'.heap[m]? = w.heap[m]? ∧ v'.ownBlock ≠ some m) → w.heap.size ≤ w'.heap.size → wpList Tryz.prog ops Q rest (a.put o.dst v') w') :
    wpList Tryz.prog ops Q (o :: rest) a (w.alloc (.cells #[.int .i64 b, .string n, .int .i64 ki, .string t, .int .i64 y] 111)) := by
  obtain ⟨rfl, rfl, rfl, rfl, rfl⟩ := hr
  exact wpList_pushR hgd s x ho r c hs h hx hlen k
end

end Go.Proofs.YtbhniddgkdldlaaGreatDoor

/- Contract of the reference's Rows: a new row of the document's table. A straight text is run by the kernel. -/
namespace Go.Proofs.YtbhniddgkdldlaaGreatDoor
open Go.RowKit

/-- a straight list of operations, none of them guarded, none of them a call: what lies behind it. -/
def runOps (P : Program) : List Oper → Act → World → Option (Act × World)
  | [], a, w => some (a, w)
  | o :: r, a, w => match o.guard, (execOp a.eval o).run P w with
    | none, .ok (.value v) w' => runOps P r (a.put o.dst v) w'
    | _, _ => none

section
variable {P : Program} {ops : Array Oper} {Q : Exit → Act → World → Prop}
theorem wpList_run : ∀ (l : List Oper) (a : Act) (w : World) (x : Act × World), runOps P l a w = some x → Q .normal x.1 x.2 → wpList P ops Q l a w
  | [], a, w, x, h, k => by
    simp only [runOps, Option.some.injEq] at h
    subst h
    exact k
  | o :: r, a, w, x, h, k => by
    unfold runOps at h
    split at h
    · rename_i v w' hg hr
      refine wpList_plain hg fun K hK => ?_
      unfold Oper.wp
      rw [hr]
      exact hK _ _ (wpList_run r _ _ x h k)
    · cases h
theorem wp_seq_run {id : Nat} {y : Code} {a : Act} {w : World} (h : (runOps P ops.toList a w).isSome = true)
    (k : y.wp P Q ((runOps P ops.toList a w).get h).1 ((runOps P ops.toList a w).get h).2) : (Code.seq (Code.region id ops false) y).wp P Q a w :=
  wp_seq (wp_region_list (wpList_run _ _ _ _ (Option.some_get h).symm k))
end

set_option maxHeartbeats 8000000 in
set_option maxRecDepth 100000 in
theorem Rows_any (w : World) :
    Calls Tryz.prog 83 #[] w fun e w' => e = .returned (.slice (some ⟨w.heap.size, 0, none⟩) 46 46) ∧ w' = w.alloc (.cells (flatR Opx.rows).toArray 111) := by
  go_enter Tryz.func83, Tryz.ntmps83
  refine wp_seq_run (by kernel_rfl) ?_
  refine wp_seq_run (by kernel_rfl) ?_
  refine wp_ret ?_
  refine bodyPost_ret (v := .slice (some ⟨w.heap.size, 0, none⟩) 46 46) (by kernel_rfl) (by kernel_rfl) ?_
  exact ⟨rfl, by kernel_rfl⟩

theorem rows_own (w : World) : OwnR w.heap.size w (w.alloc (.cells (flatR Opx.rows).toArray 111)) (.slice (some ⟨w.heap.size, 0, none⟩) 46 46) Opx.rows := by
  have hl : (flatR Opx.rows).length = 230 := by rw [flatR_length]; rfl
  refine ⟨?_, (Below.refl _ _).alloc (Nat.le_refl _) _, by simp⟩
  refine ⟨flatR_length _, .inr ⟨w.heap.size, 46, (flatR Opx.rows).toArray, rfl, Nat.le_refl _, ?_, Nat.le_refl _, by unfold maxLen; decide, ?_, ?_⟩⟩
  · exact (MapKept.heap_alloc w _).1
  · simp [hl]
  · rw [List.toList_toArray]
    exact List.take_of_length_le (by rw [hl]; decide)

end Go.Proofs.YtbhniddgkdldlaaGreatDoor

/- Contract of the reference's All: a new row of all the document's operations. -/
namespace Go.Proofs.YtbhniddgkdldlaaGreatDoor
open Go.RowKit

/-- behind some rounds: the row so far, and the block of the words. -/
structure InvA (w wr : World) (cb : Nat) (N : List (List UInt8)) (v : Value) (rs : List Opx.R) : Prop where
  own : OwnR w.heap.size w wr v rs
  lt : cb < wr.heap.size
  ne : v.ownBlock ≠ some cb
  cells : ∀ j, j < N.length → wr.cell? ⟨cb, j, none⟩ = some (.string ⟨(N.getD j []).toArray⟩)
theorem InvA.next {w wr w' : World} {cb : Nat} {N : List (List UInt8)} {v v' : Value} {rs rs' : List Opx.R} (h : InvA w wr cb N v rs) (ho : OwnR w.heap.size w w' v' rs')
    (hk : ∀ m, m < wr.heap.size → v.ownBlock ≠ some m → w'.heap[m]? = wr.heap[m]? ∧ v'.ownBlock ≠ some m) (hs : wr.heap.size ≤ w'.heap.size) : InvA w w' cb N v' rs' :=
  ⟨ho, Nat.lt_of_lt_of_le h.lt hs, (hk cb h.lt h.ne).2, fun j hj => (World.cell?_of_block (hk cb h.lt h.ne).1).trans (h.cells j hj)⟩
def InvA1 (w : World) (cb : Nat) (v i : Value) (wr : World) : Prop := ∃ j : Nat, j ≤ 10 ∧ i = .int .i64 j ∧ InvA w wr cb Opx.cmpN v (Opx.upTo1 j)
def InvA2 (w : World) (cb : Nat) (v i : Value) (wr : World) : Prop := ∃ j : Nat, j ≤ 18 ∧ i = .int .i64 j ∧ InvA w wr cb Opx.reckN v (Opx.upTo2 j)

theorem upTo1_len (j : Nat) : (Opx.upTo1 j).length = 46 + 2 * j := by
  unfold Opx.upTo1
  rw [List.length_append, show Opx.rows.length = 46 by rfl]
  congr 1
  induction j with
  | zero => rfl
  | succ j ih => rw [List.range_succ, List.flatMap_append, List.length_append, ih]; simp [Opx.two1]; omega
theorem upTo2_len (j : Nat) : (Opx.upTo2 j).length = 66 + 2 * j := by
  unfold Opx.upTo2
  rw [List.length_append, upTo1_len 10]
  congr 1
  induction j with
  | zero => rfl
  | succ j ih => rw [List.range_succ, List.flatMap_append, List.length_append, ih]; simp [Opx.two2]; omega
theorem upTo1_succ (j : Nat) : Opx.upTo1 (j + 1) = (Opx.upTo1 j ++ [⟨70 + j, Opx.i32d ++ Opx.cmpN.getD j [], 11, [52, 52, 58, 52], 0⟩]) ++ [⟨81 + j, Opx.i64d ++ Opx.cmpN.getD j [], 11, [56, 56, 58, 52], 0⟩] := by
  simp [Opx.upTo1, List.range_succ, Opx.two1]

theorem upTo2_succ (j : Nat) : Opx.upTo2 (j + 1) = (Opx.upTo2 j ++ [⟨103 + j, Opx.i32d ++ Opx.reckN.getD j [], 11, (if j < 3 then [52, 58, 52] else [52, 52, 58, 52]), 0⟩]) ++ [⟨121 + j, Opx.i64d ++ Opx.reckN.getD j [], 11, (if j < 3 then [56, 58, 56] else [56, 56, 58, 56]), 0⟩] := by
  simp [Opx.upTo2, List.range_succ, Opx.two2]
theorem cat_eq (a b : List UInt8) : (⟨(a ++ b).toArray⟩ : ByteArray) = (⟨a.toArray⟩ : ByteArray) ++ ⟨b.toArray⟩ := by
  apply Go.WideShapes.bytes_inj
  simp
theorem cat32 (b : List UInt8) : (⟨(Opx.i32d ++ b).toArray⟩ : ByteArray) = (⟨#[105, 51, 50, 46]⟩ : ByteArray) ++ ⟨b.toArray⟩ := cat_eq _ _
theorem cat64 (b : List UInt8) : (⟨(Opx.i64d ++ b).toArray⟩ : ByteArray) = (⟨#[105, 54, 52, 46]⟩ : ByteArray) ++ ⟨b.toArray⟩ := cat_eq _ _
theorem word_short (N : List (List UInt8)) (h : N.all (fun n => decide (n.length ≤ 20)) = true) (j : Nat) : (⟨(N.getD j []).toArray⟩ : ByteArray).size ≤ 20 := by
  rw [Lib.size_eq]
  rw [List.getD_eq_getElem?_getD]
  rcases Nat.lt_or_ge j N.length with h1 | h1
  · rw [List.getElem?_eq_getElem h1]
    have := List.all_eq_true.1 h _ (List.getElem_mem h1)
    simpa using this
  · rw [List.getElem?_eq_none h1]; simp

/-- the words' block, laid. -/
theorem InvA.start {w wr : World} {v : Value} {rs : List Opx.R} (N : List (List UInt8)) (h : OwnR w.heap.size w wr v rs) :
    InvA w (wr.alloc (.cells (N.map fun l => Value.string ⟨l.toArray⟩).toArray 9)) wr.heap.size N v rs := by
  refine ⟨⟨h.row.alloc _, h.below.alloc h.le _, by have := h.le; simp; omega⟩, by simp, ?_, fun j hj => ?_⟩
  · intro e
    have := (h.row.lt _ e).2
    omega
  · rw [World.cell?_alloc_at _ _ _ _ rfl, List.getD_eq_getElem?_getD, List.getElem?_eq_getElem hj]
    simp [hj]

set_option maxHeartbeats 8000000 in
set_option maxRecDepth 100000 in
theorem All_any (w : World) :
    Calls Tryz.prog 60 #[] w fun e w' => ∃ v, e = .returned v ∧ OwnR w.heap.size w w' v Opx.all := by
  have HR := Lib.hid (Rows_any w)
  obtain ⟨o, ho⟩ : ∃ o, o = Obj.cells (flatR Opx.rows).toArray 111 := ⟨_, rfl⟩
  have hown := rows_own w
  rw [← ho] at HR hown
  have HO := Lib.hid hown
  clear ho hown
  go_enter Tryz.func60, Tryz.ntmps60
  go_wp2_with (go_at_call 83; refine HR.out.mono ?_; rintro e w' ⟨rfl, rfl⟩)
  go_loopw [1, 3] (fun v i wr => InvA1 w (w.heap.size + 1) v i wr) (fun _ i _ => 10 - (intOf i).toNat)
  case atStart => exact ⟨0, by omega, rfl, by
    have h := InvA.start Opx.cmpN HO.out
    have e : Opx.upTo1 0 = Opx.rows := by simp [Opx.upTo1]
    rw [e]
    rw [show (w.alloc o).heap.size = w.heap.size + 1 by simp] at h
    exact h⟩
  case round =>
    obtain ⟨j, hj, rfl, hI⟩ := hrel
    by_cases hlt : j < 10
    · have hc := hI.cells j hlt
      obtain ⟨sj, hsj⟩ : ∃ sj : ByteArray, sj = ⟨(Opx.cmpN.getD j []).toArray⟩ := ⟨_, rfl⟩
      have hsz : sj.size ≤ 20 := by rw [hsj]; exact word_short _ (by decide) j
      have hsz' : ¬ 9223372036854775807 < 4 + sj.size := by omega
      rw [← hsj] at hc
      have HSj := Lib.hid hsj
      have hl := hI.lt
      have HI := Lib.hid hI
      clear hI hsj
      have tl : decide ((j : Int) < 10) = true := by simp; omega
      go_wp2_with (first
        | (at_builtin; refine wpList_pushV rfl (.tmp 16) (.tmp 25) rfl ⟨70 + j, Opx.i32d ++ Opx.cmpN.getD j [], 11, [52, 52, 58, 52], 0⟩ _ rfl HI.out.own rfl (by rw [upTo1_len]; omega) ⟨rfl, by rw [HSj.out]; exact cat32 _, rfl, rfl, rfl⟩ ?_; intro v1 w1 ho1 hk1 hs1; have HI1 := Lib.hid (HI.out.next ho1 hk1 hs1); have hc1 := HI1.out.cells j hlt; rw [← HSj.out] at hc1; have hl1 := HI1.out.lt; clear ho1 hk1 hs1)
        | (at_builtin; refine wpList_pushV rfl (.tmp 27) (.tmp 36) rfl ⟨81 + j, Opx.i64d ++ Opx.cmpN.getD j [], 11, [56, 56, 58, 52], 0⟩ _ rfl HI1.out.own rfl (by rw [List.length_append, upTo1_len]; simp; omega) ⟨rfl, by rw [HSj.out]; exact cat64 _, rfl, rfl, rfl⟩ ?_; intro v2 w2 ho2 hk2 hs2; have HI2 := Lib.hid (HI1.out.next ho2 hk2 hs2); clear ho2 hk2 hs2))
      go_roundw
      case rel => exact ⟨j + 1, by omega, by go_num, by rw [upTo1_succ]; exact HI2.out⟩
      case measure => simp [intOf]; omega
    · have hj' : j = 10 := by omega
      subst hj'
      have HI := Lib.hid hI.own
      have hle := hI.own.le
      clear hI
      clear hlt hj
      go_wp2
      go_loopw [1, 5] (fun v i wq => InvA2 w wr.heap.size v i wq) (fun _ i _ => 18 - (intOf i).toNat)
      case atStart => exact ⟨0, by omega, rfl, by
        have h := InvA.start Opx.reckN HI.out
        have e : Opx.upTo2 0 = Opx.upTo1 10 := by simp [Opx.upTo2]
        rw [e]
        exact h⟩
      case round =>
        clear HI
        obtain ⟨k, hk, rfl, hI⟩ := hrel
        by_cases hlt : k < 18
        · have hc := hI.cells k hlt
          obtain ⟨sj, hsj⟩ : ∃ sj : ByteArray, sj = ⟨(Opx.reckN.getD k []).toArray⟩ := ⟨_, rfl⟩
          have hsz : sj.size ≤ 20 := by rw [hsj]; exact word_short _ (by decide) k
          have hsz' : ¬ 9223372036854775807 < 4 + sj.size := by omega
          rw [← hsj] at hc
          have HSj := Lib.hid hsj
          have hl := hI.lt
          have HI := Lib.hid hI
          clear hI hsj
          have tl : decide ((k : Int) < 18) = true := by simp; omega
          by_cases h3 : k < 3
          · skip
            have tk : decide ((k : Int) < 3) = true := by simp; omega
            go_wp2_with (first
              | (at_builtin; refine wpList_pushV rfl (.tmp 47) (.tmp 57) rfl ⟨103 + k, Opx.i32d ++ Opx.reckN.getD k [], 11, [52, 58, 52], 0⟩ _ rfl HI.out.own rfl (by rw [upTo2_len]; omega) ⟨rfl, by rw [HSj.out]; exact cat32 _, rfl, rfl, rfl⟩ ?_; intro v1 w1 ho1 hk1 hs1; have HI1 := Lib.hid (HI.out.next ho1 hk1 hs1); have hc1 := HI1.out.cells k hlt; rw [← HSj.out] at hc1; have hl1 := HI1.out.lt; clear ho1 hk1 hs1)
              | (at_builtin; refine wpList_pushV rfl (.tmp 59) (.tmp 69) rfl ⟨121 + k, Opx.i64d ++ Opx.reckN.getD k [], 11, [56, 58, 56], 0⟩ _ rfl HI1.out.own rfl (by rw [List.length_append, upTo2_len]; simp; omega) ⟨rfl, by rw [HSj.out]; exact cat64 _, rfl, rfl, rfl⟩ ?_; intro v2 w2 ho2 hk2 hs2; have HI2 := Lib.hid (HI1.out.next ho2 hk2 hs2); clear ho2 hk2 hs2))
            go_roundw
            case rel =>
              (repeat apply Exists.intro)
              exact ⟨⟨k + 1, by omega, by go_num, by rw [upTo2_succ]; simp only [h3, if_true, if_false]; exact HI2.out⟩, rfl⟩
            case measure => simp [intOf]; omega

          · skip
            have tk : decide ((k : Int) < 3) = false := by simp; omega
            go_wp2_with (first
              | (at_builtin; refine wpList_pushV rfl (.tmp 47) (.tmp 57) rfl ⟨103 + k, Opx.i32d ++ Opx.reckN.getD k [], 11, [52, 52, 58, 52], 0⟩ _ rfl HI.out.own rfl (by rw [upTo2_len]; omega) ⟨rfl, by rw [HSj.out]; exact cat32 _, rfl, rfl, rfl⟩ ?_; intro v1 w1 ho1 hk1 hs1; have HI1 := Lib.hid (HI.out.next ho1 hk1 hs1); have hc1 := HI1.out.cells k hlt; rw [← HSj.out] at hc1; have hl1 := HI1.out.lt; clear ho1 hk1 hs1)
              | (at_builtin; refine wpList_pushV rfl (.tmp 59) (.tmp 69) rfl ⟨121 + k, Opx.i64d ++ Opx.reckN.getD k [], 11, [56, 56, 58, 56], 0⟩ _ rfl HI1.out.own rfl (by rw [List.length_append, upTo2_len]; simp; omega) ⟨rfl, by rw [HSj.out]; exact cat64 _, rfl, rfl, rfl⟩ ?_; intro v2 w2 ho2 hk2 hs2; have HI2 := Lib.hid (HI1.out.next ho2 hk2 hs2); clear ho2 hk2 hs2))
            go_roundw
            case rel =>
              (repeat apply Exists.intro)
              exact ⟨⟨k + 1, by omega, by go_num, by rw [upTo2_succ]; simp only [h3, if_true, if_false]; exact HI2.out⟩, rfl⟩
            case measure => simp [intOf]; omega

        · have hk' : k = 18 := by omega
          subst hk'
          go_wp2
          go_ret
          exact ⟨_, rfl, hI.own⟩

end Go.Proofs.YtbhniddgkdldlaaGreatDoor
