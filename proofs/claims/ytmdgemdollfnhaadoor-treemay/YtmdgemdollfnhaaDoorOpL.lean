/- Contract of the reference's All: a new row of all the document's operations. -/
import Derived.Test.YtmdgemdollfnhaaDoorOpK
import Derived.Laws.Concat
namespace Go.Proofs.YtmdgemdollfnhaaDoor
open Go.RowKit

/-- behind some rounds: the row so far, and the block of the words. -/
structure InvA (w wr : World) (cb : Nat) (N : List (List UInt8)) (v : Value) (rs : List Opx.R) : Prop where
  own : OwnR w.heap.size w wr v rs
  lt : cb < wr.heap.size
  ne : v.ownBlock ≠ some cb
  cells : ∀ j, j < N.length → wr.cell? ⟨cb, j, none⟩ = some (.string ⟨(N.getD j []).toArray⟩)
theorem InvA.next {w wr w' : World} {cb : Nat} {N : List (List UInt8)} {v v' : Value} {rs rs' : List Opx.R} (h : InvA w wr cb N v rs) (ho : OwnR w.heap.size w w' v' rs')
    (hk : ∀ m, m < wr.heap.size → v.ownBlock ≠ some m → w'.heap[m]? = wr.heap[m]? ∧ v'.ownBlock ≠ some m) (hs : wr.heap.size ≤ w'.heap.size) : InvA w w' cb N v' rs' :=
  ⟨ho, Nat.lt_of_lt_of_le h.lt hs, (hk cb h.lt h.ne).2, fun j hj => (World.cell?_of_block (hk cb h.lt h.ne).1).trans (h.cells j hj)⟩
def InvA1 (w : World) (cb : Nat) (v i : Value) (wr : World) : Prop := ∃ j : Nat, j ≤ 10 ∧ i = .int .i64 j ∧ InvA w wr cb Opx.cmpN v (Opx.upTo1 j)
def InvA2 (w : World) (cb : Nat) (v i : Value) (wr : World) : Prop := ∃ j : Nat, j ≤ 18 ∧ i = .int .i64 j ∧ InvA w wr cb Opx.reckN v (Opx.upTo2 j)

theorem upTo1_len (j : Nat) : (Opx.upTo1 j).length = 46 + 2 * j := by
  unfold Opx.upTo1
  rw [List.length_append, show Opx.rows.length = 46 by rfl]
  congr 1
  induction j with
  | zero => rfl
  | succ j ih => rw [List.range_succ, List.flatMap_append, List.length_append, ih]; simp [Opx.two1]; omega
theorem upTo2_len (j : Nat) : (Opx.upTo2 j).length = 66 + 2 * j := by
  unfold Opx.upTo2
  rw [List.length_append, upTo1_len 10]
  congr 1
  induction j with
  | zero => rfl
  | succ j ih => rw [List.range_succ, List.flatMap_append, List.length_append, ih]; simp [Opx.two2]; omega
theorem upTo1_succ (j : Nat) : Opx.upTo1 (j + 1) = (Opx.upTo1 j ++ [⟨70 + j, Opx.i32d ++ Opx.cmpN.getD j [], 11, [52, 52, 58, 52], 0⟩]) ++ [⟨81 + j, Opx.i64d ++ Opx.cmpN.getD j [], 11, [56, 56, 58, 52], 0⟩] := by
  simp [Opx.upTo1, List.range_succ, Opx.two1]

theorem upTo2_succ (j : Nat) : Opx.upTo2 (j + 1) = (Opx.upTo2 j ++ [⟨103 + j, Opx.i32d ++ Opx.reckN.getD j [], 11, (if j < 3 then [52, 58, 52] else [52, 52, 58, 52]), 0⟩]) ++ [⟨121 + j, Opx.i64d ++ Opx.reckN.getD j [], 11, (if j < 3 then [56, 58, 56] else [56, 56, 58, 56]), 0⟩] := by
  simp [Opx.upTo2, List.range_succ, Opx.two2]
theorem cat_eq (a b : List UInt8) : (⟨(a ++ b).toArray⟩ : ByteArray) = (⟨a.toArray⟩ : ByteArray) ++ ⟨b.toArray⟩ := by
  apply Go.WideShapes.bytes_inj
  simp
theorem cat32 (b : List UInt8) : (⟨(Opx.i32d ++ b).toArray⟩ : ByteArray) = (⟨#[105, 51, 50, 46]⟩ : ByteArray) ++ ⟨b.toArray⟩ := cat_eq _ _
theorem cat64 (b : List UInt8) : (⟨(Opx.i64d ++ b).toArray⟩ : ByteArray) = (⟨#[105, 54, 52, 46]⟩ : ByteArray) ++ ⟨b.toArray⟩ := cat_eq _ _
theorem word_short (N : List (List UInt8)) (h : N.all (fun n => decide (n.length ≤ 20)) = true) (j : Nat) : (⟨(N.getD j []).toArray⟩ : ByteArray).size ≤ 20 := by
  rw [Lib.size_eq]
  rw [List.getD_eq_getElem?_getD]
  rcases Nat.lt_or_ge j N.length with h1 | h1
  · rw [List.getElem?_eq_getElem h1]
    have := List.all_eq_true.1 h _ (List.getElem_mem h1)
    simpa using this
  · rw [List.getElem?_eq_none h1]; simp

/-- the words' block, laid. -/
theorem InvA.start {w wr : World} {v : Value} {rs : List Opx.R} (N : List (List UInt8)) (h : OwnR w.heap.size w wr v rs) :
    InvA w (wr.alloc (.cells (N.map fun l => Value.string ⟨l.toArray⟩).toArray 9)) wr.heap.size N v rs := by
  refine ⟨⟨h.row.alloc _, h.below.alloc h.le _, by have := h.le; simp; omega⟩, by simp, ?_, fun j hj => ?_⟩
  · intro e
    have := (h.row.lt _ e).2
    omega
  · rw [World.cell?_alloc_at _ _ _ _ rfl, List.getD_eq_getElem?_getD, List.getElem?_eq_getElem hj]
    simp [hj]

set_option maxHeartbeats 8000000 in
set_option maxRecDepth 100000 in
theorem All_any (w : World) :
    Calls Tryd.prog 88 #[] w fun e w' => ∃ v, e = .returned v ∧ OwnR w.heap.size w w' v Opx.all := by
  have HR := Lib.hid (Rows_any w)
  obtain ⟨o, ho⟩ : ∃ o, o = Obj.cells (flatR Opx.rows).toArray 137 := ⟨_, rfl⟩
  have hown := rows_own w
  rw [← ho] at HR hown
  have HO := Lib.hid hown
  clear ho hown
  go_enter Tryd.func88, Tryd.ntmps88
  go_wp2_with (go_at_call 97; refine HR.out.mono ?_; rintro e w' ⟨rfl, rfl⟩)
  go_loopw [1, 3] (fun v i wr => InvA1 w (w.heap.size + 1) v i wr) (fun _ i _ => 10 - (intOf i).toNat)
  case atStart => exact ⟨0, by omega, rfl, by
    have h := InvA.start Opx.cmpN HO.out
    have e : Opx.upTo1 0 = Opx.rows := by simp [Opx.upTo1]
    rw [e]
    rw [show (w.alloc o).heap.size = w.heap.size + 1 by simp] at h
    exact h⟩
  case round =>
    obtain ⟨j, hj, rfl, hI⟩ := hrel
    by_cases hlt : j < 10
    · have hc := hI.cells j hlt
      obtain ⟨sj, hsj⟩ : ∃ sj : ByteArray, sj = ⟨(Opx.cmpN.getD j []).toArray⟩ := ⟨_, rfl⟩
      have hsz : sj.size ≤ 20 := by rw [hsj]; exact word_short _ (by decide) j
      have hsz' : ¬ 9223372036854775807 < 4 + sj.size := by omega
      rw [← hsj] at hc
      have HSj := Lib.hid hsj
      have hl := hI.lt
      have HI := Lib.hid hI
      clear hI hsj
      have tl : decide ((j : Int) < 10) = true := by simp; omega
      go_wp2_with (first
        | (at_builtin; refine wpList_pushV rfl (.tmp 16) (.tmp 25) rfl ⟨70 + j, Opx.i32d ++ Opx.cmpN.getD j [], 11, [52, 52, 58, 52], 0⟩ _ rfl HI.out.own rfl (by rw [upTo1_len]; omega) ⟨rfl, by rw [HSj.out]; exact cat32 _, rfl, rfl, rfl⟩ ?_; intro v1 w1 ho1 hk1 hs1; have HI1 := Lib.hid (HI.out.next ho1 hk1 hs1); have hc1 := HI1.out.cells j hlt; rw [← HSj.out] at hc1; have hl1 := HI1.out.lt; clear ho1 hk1 hs1)
        | (at_builtin; refine wpList_pushV rfl (.tmp 27) (.tmp 36) rfl ⟨81 + j, Opx.i64d ++ Opx.cmpN.getD j [], 11, [56, 56, 58, 52], 0⟩ _ rfl HI1.out.own rfl (by rw [List.length_append, upTo1_len]; simp; omega) ⟨rfl, by rw [HSj.out]; exact cat64 _, rfl, rfl, rfl⟩ ?_; intro v2 w2 ho2 hk2 hs2; have HI2 := Lib.hid (HI1.out.next ho2 hk2 hs2); clear ho2 hk2 hs2))
      go_roundw
      case rel => exact ⟨j + 1, by omega, by go_num, by rw [upTo1_succ]; exact HI2.out⟩
      case measure => simp [intOf]; omega
    · have hj' : j = 10 := by omega
      subst hj'
      have HI := Lib.hid hI.own
      have hle := hI.own.le
      clear hI
      clear hlt hj
      go_wp2
      go_loopw [1, 5] (fun v i wq => InvA2 w wr.heap.size v i wq) (fun _ i _ => 18 - (intOf i).toNat)
      case atStart => exact ⟨0, by omega, rfl, by
        have h := InvA.start Opx.reckN HI.out
        have e : Opx.upTo2 0 = Opx.upTo1 10 := by simp [Opx.upTo2]
        rw [e]
        exact h⟩
      case round =>
        clear HI
        obtain ⟨k, hk, rfl, hI⟩ := hrel
        by_cases hlt : k < 18
        · have hc := hI.cells k hlt
          obtain ⟨sj, hsj⟩ : ∃ sj : ByteArray, sj = ⟨(Opx.reckN.getD k []).toArray⟩ := ⟨_, rfl⟩
          have hsz : sj.size ≤ 20 := by rw [hsj]; exact word_short _ (by decide) k
          have hsz' : ¬ 9223372036854775807 < 4 + sj.size := by omega
          rw [← hsj] at hc
          have HSj := Lib.hid hsj
          have hl := hI.lt
          have HI := Lib.hid hI
          clear hI hsj
          have tl : decide ((k : Int) < 18) = true := by simp; omega
          by_cases h3 : k < 3
          · skip
            have tk : decide ((k : Int) < 3) = true := by simp; omega
            go_wp2_with (first
              | (at_builtin; refine wpList_pushV rfl (.tmp 47) (.tmp 57) rfl ⟨103 + k, Opx.i32d ++ Opx.reckN.getD k [], 11, [52, 58, 52], 0⟩ _ rfl HI.out.own rfl (by rw [upTo2_len]; omega) ⟨rfl, by rw [HSj.out]; exact cat32 _, rfl, rfl, rfl⟩ ?_; intro v1 w1 ho1 hk1 hs1; have HI1 := Lib.hid (HI.out.next ho1 hk1 hs1); have hc1 := HI1.out.cells k hlt; rw [← HSj.out] at hc1; have hl1 := HI1.out.lt; clear ho1 hk1 hs1)
              | (at_builtin; refine wpList_pushV rfl (.tmp 59) (.tmp 69) rfl ⟨121 + k, Opx.i64d ++ Opx.reckN.getD k [], 11, [56, 58, 56], 0⟩ _ rfl HI1.out.own rfl (by rw [List.length_append, upTo2_len]; simp; omega) ⟨rfl, by rw [HSj.out]; exact cat64 _, rfl, rfl, rfl⟩ ?_; intro v2 w2 ho2 hk2 hs2; have HI2 := Lib.hid (HI1.out.next ho2 hk2 hs2); clear ho2 hk2 hs2))
            go_roundw
            case rel =>
              (repeat apply Exists.intro)
              exact ⟨⟨k + 1, by omega, by go_num, by rw [upTo2_succ]; simp only [h3, if_true, if_false]; exact HI2.out⟩, rfl⟩
            case measure => simp [intOf]; omega

          · skip
            have tk : decide ((k : Int) < 3) = false := by simp; omega
            go_wp2_with (first
              | (at_builtin; refine wpList_pushV rfl (.tmp 47) (.tmp 57) rfl ⟨103 + k, Opx.i32d ++ Opx.reckN.getD k [], 11, [52, 52, 58, 52], 0⟩ _ rfl HI.out.own rfl (by rw [upTo2_len]; omega) ⟨rfl, by rw [HSj.out]; exact cat32 _, rfl, rfl, rfl⟩ ?_; intro v1 w1 ho1 hk1 hs1; have HI1 := Lib.hid (HI.out.next ho1 hk1 hs1); have hc1 := HI1.out.cells k hlt; rw [← HSj.out] at hc1; have hl1 := HI1.out.lt; clear ho1 hk1 hs1)
              | (at_builtin; refine wpList_pushV rfl (.tmp 59) (.tmp 69) rfl ⟨121 + k, Opx.i64d ++ Opx.reckN.getD k [], 11, [56, 56, 58, 56], 0⟩ _ rfl HI1.out.own rfl (by rw [List.length_append, upTo2_len]; simp; omega) ⟨rfl, by rw [HSj.out]; exact cat64 _, rfl, rfl, rfl⟩ ?_; intro v2 w2 ho2 hk2 hs2; have HI2 := Lib.hid (HI1.out.next ho2 hk2 hs2); clear ho2 hk2 hs2))
            go_roundw
            case rel =>
              (repeat apply Exists.intro)
              exact ⟨⟨k + 1, by omega, by go_num, by rw [upTo2_succ]; simp only [h3, if_true, if_false]; exact HI2.out⟩, rfl⟩
            case measure => simp [intOf]; omega

        · have hk' : k = 18 := by omega
          subst hk'
          go_wp2
          go_ret
          exact ⟨_, rfl, hI.own⟩

end Go.Proofs.YtmdgemdollfnhaaDoor
