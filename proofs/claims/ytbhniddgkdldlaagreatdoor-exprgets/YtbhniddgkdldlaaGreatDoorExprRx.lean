/- The reference's reader of layer 6: contracts of Num, Int, Must and kind, over its state: a place and a count, or what is amiss. -/
import Derived.Test.YtbhniddgkdldlaaGreatDoorExprRy
import Derived.Test.YtbhniddgkdldlaaGreatDoorLebU
set_option linter.unusedVariables false
set_option linter.unusedSimpArgs false
namespace Go.Proofs.YtbhniddgkdldlaaGreatDoor.Trx
/-- the reader's state: what is amiss and where; or its place and how many were read. -/
abbrev Sx := Except (Nat × Nat) (Nat × Nat)
/-- a reading of the bytes behind the place; x0 where nothing was read. -/
def onS {α : Type} (x0 : α) (f : Nat → Rs α) : Sx → α × Sx
  | .error er => (x0, .error er)
  | .ok (p, n) => match f p with
    | .error er => (x0, .error er)
    | .ok (x, _, p') => (x, .ok (p', n))
/-- a number without a sign; with one. -/
def onI (bs : List UInt8) (s : Sx) : Int × Sx := onS 0 (fun p => rdInt (bs.drop p) p) s
def onG (bits : Nat) (bs : List UInt8) (s : Sx) : Int × Sx := onS 0 (fun p => rdSig bits (bs.drop p) p) s
end Go.Proofs.YtbhniddgkdldlaaGreatDoor.Trx
namespace Go.Proofs.YtbhniddgkdldlaaGreatDoor
open Go.RowKit Trx

/-- the reference's reader, in a state. -/
def RfS (R : Nat) (w : World) (A : Option Addr) (c : Nat) (bs : List UInt8) : Sx → Prop
  | .error er => er.1 ≠ 0 ∧ ∃ p n, Rf R w A c bs p n er.1 er.2
  | .ok (p, n) => Rf R w A c bs p n 0 0
section
variable {R : Nat} {w w' : World} {A : Option Addr} {c : Nat} {bs : List UInt8} {p n : Nat} {s : Sx}
theorem RfS.any (h : RfS R w A c bs s) : ∃ p n bad whr, Rf R w A c bs p n bad whr := by
  rcases s with er | ⟨p, n⟩
  · obtain ⟨-, p, n, h⟩ := h; exact ⟨p, n, _, _, h⟩
  · exact ⟨p, n, 0, 0, h⟩
theorem RfS.lt (h : RfS R w A c bs s) : R < w.heap.size := by obtain ⟨_, _, _, _, h⟩ := h.any; exact h.lt
theorem RfS.drewN (h : RfS R w A c bs s) (k : Nat) : RfS R (w.drewN k) A c bs s := by
  rcases s with er | ⟨p, n⟩
  · obtain ⟨h0, p, n, h⟩ := h; exact ⟨h0, p, n, h.drewN k⟩
  · exact Rf.drewN (h := h) k
theorem RfS.later (h : RfS R w A c bs s) (hb : Below w.heap.size w w') : RfS R w' A c bs s := by
  rcases s with er | ⟨p, n⟩
  · obtain ⟨h0, p, n, h⟩ := h; exact ⟨h0, p, n, h.later hb⟩
  · exact Rf.later (h := h) hb
theorem RfS.kx {M : Nat → Prop} (h : RfS R w A c bs s) (hk : Kx M w w') (hR : ¬ M R) (hM : ∀ b, M b → R ≤ b) : RfS R w' A c bs s := by
  rcases s with er | ⟨p, n⟩
  · obtain ⟨h0, p, n, h⟩ := h; exact ⟨h0, p, n, h.kx hk hR hM⟩
  · exact Rf.kx (h := h) hk hR hM

/-! ### a number -/
set_option maxHeartbeats 2000000 in
set_option maxRecDepth 100000 in
theorem Num_bad {bad whr : Nat} (h : Rf R w A c bs p n bad whr) (hb : bad ≠ 0) (bits : Int) (sign : Bool) :
    Calls Tryz.prog 72 #[.pointer (some ⟨R, 0, none⟩), .int .i64 bits, .bool sign] w fun e w' => e = .returned (.int .u64 0) ∧ w = w' := by
  have c3 := h.c3
  have hlt := h.lt
  have tb2 : ((bad : Int) != 0) = true := by simp; omega
  clear h
  go_enter Tryz.func72, Tryz.ntmps72
  go_wp2_with fail
  go_ret
  exact ⟨rfl, rfl⟩
set_option maxHeartbeats 2000000 in
set_option maxRecDepth 100000 in
theorem Amiss2 (h : Rf R w A c bs p n 0 0) (q : Nat) :
    Calls Tryz.prog 26 #[.pointer (some ⟨R, 0, none⟩), .int .i64 2, .int .i64 q] w fun e w' => e = .returned (.tuple #[]) ∧ Rf R w' A c bs p n 2 q ∧ Kx (Only R) w w' := Amiss_good h 2 q
set_option maxHeartbeats 2000000 in
set_option maxRecDepth 100000 in
theorem Num_none (h : Rf R w A c bs p n 0 0) (bits : Int) (sign : Bool)
    (hC : Calls Tryz.prog 61 #[.slice A bs.length c, .int .i64 p, .int .i64 bits, .bool sign] w.drew fun e w' => e = .returned (rV none) ∧ Below w.drew.heap.size w.drew w') :
    Calls Tryz.prog 72 #[.pointer (some ⟨R, 0, none⟩), .int .i64 bits, .bool sign] w fun e w' => e = .returned (.int .u64 0) ∧ Rf R w' A c bs p n 2 p ∧ Kx (Only R) w w' := by
  have c0 := h.c0
  have c1 := h.c1
  have c3 : w.cell? ⟨R, 3, none⟩ = some (.int .i64 0) := h.c3
  have hlt := h.lt
  unfold rV at hC
  have HC := Lib.hid hC
  have HR := Lib.hid h
  clear h hC
  go_enter Tryz.func72, Tryz.ntmps72
  go_wp2_with fail
  refine wp_region_held_drew (S := fun w' => w'.cell? ⟨R, 0, none⟩ = some (.slice A bs.length c) ∧ w'.cell? ⟨R, 1, none⟩ = some (.int .i64 p)) (by kernel_rfl) ⟨c0, c1⟩ (fun hHeld => ?_)
  refine region_take 0 (some 16) (v := ?_) rfl rfl (by kernel_rfl) (by kernel_rfl) (by kernel_rfl) (fun _ _ _ h => h) (by rfl) ?_ (by assumption) ?_
  rotate_left
  · (intro w hSw; (try dsimp only at hSw); go_simp; try with_reducible rfl)
  try simp only [Act.put, List.setIfInBounds_toArray, List.set_cons_zero, List.set_cons_succ]
  refine region_take 1 (some 17) (v := ?_) rfl rfl (by kernel_rfl) (by kernel_rfl) (by kernel_rfl) (fun _ _ _ h => h) (by rfl) ?_ (by assumption) ?_
  rotate_left
  · (intro w hSw; (try dsimp only at hSw); go_simp; try with_reducible rfl)
  try simp only [Act.put, List.setIfInBounds_toArray, List.set_cons_zero, List.set_cons_succ]
  refine region_take 2 (some 18) (v := ?_) rfl rfl (by kernel_rfl) (by kernel_rfl) (by kernel_rfl) (fun _ _ _ h => h) (by rfl) ?_ (by assumption) ?_
  rotate_left
  · (intro w hSw; (try dsimp only at hSw); go_simp; try with_reducible rfl)
  try simp only [Act.put, List.setIfInBounds_toArray, List.set_cons_zero, List.set_cons_succ]
  refine region_take 3 (some 19) (v := ?_) rfl rfl (by kernel_rfl) (by kernel_rfl) (by kernel_rfl) (fun _ _ _ h => h) (by rfl) ?_ (by assumption) ?_
  rotate_left
  · (intro w hSw; (try dsimp only at hSw); go_simp; try with_reducible rfl)
  try simp only [Act.put, List.setIfInBounds_toArray, List.set_cons_zero, List.set_cons_succ]
  refine region_take 4 (some 20) (v := ?_) rfl rfl (by kernel_rfl) (by kernel_rfl) (by kernel_rfl) (fun _ _ _ h => h) (by rfl) ?_ (by assumption) ?_
  rotate_left
  · (intro w hSw; (try dsimp only at hSw); go_simp; try with_reducible rfl)
  try simp only [Act.put, List.setIfInBounds_toArray, List.set_cons_zero, List.set_cons_succ]
  refine region_take 5 (some 21) (v := ?_) rfl rfl (by kernel_rfl) (by kernel_rfl) (by kernel_rfl) (fun _ _ _ h => h) (by rfl) ?_ (by assumption) ?_
  rotate_left
  · (intro w hSw; (try dsimp only at hSw); go_simp; try with_reducible rfl)
  try simp only [Act.put, List.setIfInBounds_toArray, List.set_cons_zero, List.set_cons_succ]
  refine region_take 6 (some 22) (v := ?_) rfl rfl (by kernel_rfl) (by kernel_rfl) (by kernel_rfl) (fun _ _ _ h => h) (by rfl) ?_ (by assumption) ?_
  rotate_left
  · (intro w hSw; (try dsimp only at hSw); go_simp; try with_reducible rfl)
  try simp only [Act.put, List.setIfInBounds_toArray, List.set_cons_zero, List.set_cons_succ]
  refine region_take 7 (some 23) (v := ?_) rfl rfl (by kernel_rfl) (by kernel_rfl) (by kernel_rfl) (fun _ _ _ h => h) (by rfl) ?_ (by assumption) ?_
  rotate_left
  · (intro w hSw; (try dsimp only at hSw); go_simp; try with_reducible rfl)
  try simp only [Act.put, List.setIfInBounds_toArray, List.set_cons_zero, List.set_cons_succ]
  refine region_take 8 (some 24) (v := ?_) rfl rfl (by kernel_rfl) (by kernel_rfl) (by kernel_rfl) (fun _ _ _ h => h) (by rfl) ?_ (by assumption) ?_
  rotate_left
  · (intro w hSw; (try dsimp only at hSw); go_simp; try with_reducible rfl)
  try simp only [Act.put, List.setIfInBounds_toArray, List.set_cons_zero, List.set_cons_succ]
  refine region_take 9 (some 25) (v := ?_) rfl rfl (by kernel_rfl) (by kernel_rfl) (by kernel_rfl) (fun _ _ _ h => h) (by rfl) ?_ (by assumption) ?_
  rotate_left
  · (intro w hSw; (try dsimp only at hSw); go_simp; try with_reducible rfl)
  try simp only [Act.put, List.setIfInBounds_toArray, List.set_cons_zero, List.set_cons_succ]
  refine wpAnyH_ready (rs := [10]) (by kernel_rfl) (by simp) ?_
  refine AllReadyH.cons rfl (fun K hK => ?_) AllReadyH.nil
  go_simp
  refine HC.out.mono ?_
  rintro e w1 ⟨rfl, hb1⟩
  have HR1 : Hid (Rf R w1 A c bs p n 0 0) := Lib.hid ((HR.out.drewN 1).later hb1)
  have HK1 : Hid (Kx (Only R) w w1) := Lib.hid (Kx.w1.trans (.of_below hb1))
  have d0 := HR1.out.c0
  have d1 := HR1.out.c1
  have hlt1 := HR1.out.lt
  clear hb1 hHeld c0 c1 c3 hlt
  go_wp2_with fail
  refine hK.out _ _ ⟨d0, d1⟩ (fun hHeld => ?_)
  clear hK K
  try simp only [Act.put, List.setIfInBounds_toArray, List.set_cons_zero, List.set_cons_succ]
  refine region_take 11 (some 15) (v := ?_) rfl rfl (by kernel_rfl) (by kernel_rfl) (by kernel_rfl) (fun _ _ _ h => h) (by rfl) ?_ (by assumption) ?_
  rotate_left
  · (intro w hSw; (try dsimp only at hSw); go_simp; try with_reducible rfl)
  try simp only [Act.put, List.setIfInBounds_toArray, List.set_cons_zero, List.set_cons_succ]
  refine region_take 12 (some 27) (v := ?_) rfl rfl (by kernel_rfl) (by kernel_rfl) (by kernel_rfl) (fun _ _ _ h => h) (by rfl) ?_ (by assumption) ?_
  rotate_left
  · (intro w hSw; (try dsimp only at hSw); go_simp; try with_reducible rfl)
  try simp only [Act.put, List.setIfInBounds_toArray, List.set_cons_zero, List.set_cons_succ]
  refine region_take 13 (some 28) (v := ?_) rfl rfl (by kernel_rfl) (by kernel_rfl) (by kernel_rfl) (fun _ _ _ h => h) (by rfl) ?_ (by assumption) ?_
  rotate_left
  · (intro w hSw; (try dsimp only at hSw); go_simp; try with_reducible rfl)
  try simp only [Act.put, List.setIfInBounds_toArray, List.set_cons_zero, List.set_cons_succ]
  refine region_take 14 (some 29) (v := ?_) rfl rfl (by kernel_rfl) (by kernel_rfl) (by kernel_rfl) (fun _ _ _ h => h) (by rfl) ?_ (by assumption) ?_
  rotate_left
  · (intro w hSw; (try dsimp only at hSw); go_simp; try with_reducible rfl)
  try simp only [Act.put, List.setIfInBounds_toArray, List.set_cons_zero, List.set_cons_succ]
  refine region_take 15 (some 7) (v := ?_) rfl rfl (by kernel_rfl) (by kernel_rfl) (by kernel_rfl) (fun _ _ _ h => h) (by rfl) ?_ (by assumption) ?_
  rotate_left
  · (intro w hSw; (try dsimp only at hSw); go_simp; try with_reducible rfl)
  try simp only [Act.put, List.setIfInBounds_toArray, List.set_cons_zero, List.set_cons_succ]
  refine region_take 16 (some 8) (v := ?_) rfl rfl (by kernel_rfl) (by kernel_rfl) (by kernel_rfl) (fun _ _ _ h => h) (by rfl) ?_ (by assumption) ?_
  rotate_left
  · (intro w hSw; (try dsimp only at hSw); go_simp; try with_reducible rfl)
  try simp only [Act.put, List.setIfInBounds_toArray, List.set_cons_zero, List.set_cons_succ]
  refine region_take 17 (some 9) (v := ?_) rfl rfl (by kernel_rfl) (by kernel_rfl) (by kernel_rfl) (fun _ _ _ h => h) (by rfl) ?_ (by assumption) ?_
  rotate_left
  · (intro w hSw; (try dsimp only at hSw); go_simp; try with_reducible rfl)
  try simp only [Act.put, List.setIfInBounds_toArray, List.set_cons_zero, List.set_cons_succ]
  refine wpAnyH_done (by kernel_rfl) ?_ _
  clear hHeld
  go_wp2_with (first | (go_at_call 26; (with_reducible refine (Amiss2 HR1.out p).mono ?_); rintro e w2 ⟨rfl, hr2, hk2⟩; have HR2 := Lib.hid hr2; have HK2 := Lib.hid (HK1.out.trans hk2); clear hr2 hk2))
  go_ret
  exact ⟨rfl, HR2.out, HK2.out⟩
set_option maxHeartbeats 2000000 in
set_option maxRecDepth 100000 in
theorem Num_some (h : Rf R w A c bs p n 0 0) (bits : Int) (sign : Bool) (x p' : Nat) (hp' : p' ≤ bs.length)
    (hC : Calls Tryz.prog 61 #[.slice A bs.length c, .int .i64 p, .int .i64 bits, .bool sign] w.drew fun e w' => e = .returned (rV (some (x, p'))) ∧ Below w.drew.heap.size w.drew w') :
    Calls Tryz.prog 72 #[.pointer (some ⟨R, 0, none⟩), .int .i64 bits, .bool sign] w fun e w' => e = .returned (.int .u64 x) ∧ Rf R w' A c bs p' n 0 0 ∧ Kx (Only R) w w' := by
  have c0 := h.c0
  have c1 := h.c1
  have c3 : w.cell? ⟨R, 3, none⟩ = some (.int .i64 0) := h.c3
  have hlt := h.lt
  unfold rV at hC
  have HC := Lib.hid hC
  have HR := Lib.hid h
  have HP := Lib.hid hp'
  clear h hC hp'
  go_enter Tryz.func72, Tryz.ntmps72
  go_wp2_with fail
  refine wp_region_held_drew (S := fun w' => w'.cell? ⟨R, 0, none⟩ = some (.slice A bs.length c) ∧ w'.cell? ⟨R, 1, none⟩ = some (.int .i64 p)) (by kernel_rfl) ⟨c0, c1⟩ (fun hHeld => ?_)
  refine region_take 0 (some 16) (v := ?_) rfl rfl (by kernel_rfl) (by kernel_rfl) (by kernel_rfl) (fun _ _ _ h => h) (by rfl) ?_ (by assumption) ?_
  rotate_left
  · (intro w hSw; (try dsimp only at hSw); go_simp; try with_reducible rfl)
  try simp only [Act.put, List.setIfInBounds_toArray, List.set_cons_zero, List.set_cons_succ]
  refine region_take 1 (some 17) (v := ?_) rfl rfl (by kernel_rfl) (by kernel_rfl) (by kernel_rfl) (fun _ _ _ h => h) (by rfl) ?_ (by assumption) ?_
  rotate_left
  · (intro w hSw; (try dsimp only at hSw); go_simp; try with_reducible rfl)
  try simp only [Act.put, List.setIfInBounds_toArray, List.set_cons_zero, List.set_cons_succ]
  refine region_take 2 (some 18) (v := ?_) rfl rfl (by kernel_rfl) (by kernel_rfl) (by kernel_rfl) (fun _ _ _ h => h) (by rfl) ?_ (by assumption) ?_
  rotate_left
  · (intro w hSw; (try dsimp only at hSw); go_simp; try with_reducible rfl)
  try simp only [Act.put, List.setIfInBounds_toArray, List.set_cons_zero, List.set_cons_succ]
  refine region_take 3 (some 19) (v := ?_) rfl rfl (by kernel_rfl) (by kernel_rfl) (by kernel_rfl) (fun _ _ _ h => h) (by rfl) ?_ (by assumption) ?_
  rotate_left
  · (intro w hSw; (try dsimp only at hSw); go_simp; try with_reducible rfl)
  try simp only [Act.put, List.setIfInBounds_toArray, List.set_cons_zero, List.set_cons_succ]
  refine region_take 4 (some 20) (v := ?_) rfl rfl (by kernel_rfl) (by kernel_rfl) (by kernel_rfl) (fun _ _ _ h => h) (by rfl) ?_ (by assumption) ?_
  rotate_left
  · (intro w hSw; (try dsimp only at hSw); go_simp; try with_reducible rfl)
  try simp only [Act.put, List.setIfInBounds_toArray, List.set_cons_zero, List.set_cons_succ]
  refine region_take 5 (some 21) (v := ?_) rfl rfl (by kernel_rfl) (by kernel_rfl) (by kernel_rfl) (fun _ _ _ h => h) (by rfl) ?_ (by assumption) ?_
  rotate_left
  · (intro w hSw; (try dsimp only at hSw); go_simp; try with_reducible rfl)
  try simp only [Act.put, List.setIfInBounds_toArray, List.set_cons_zero, List.set_cons_succ]
  refine region_take 6 (some 22) (v := ?_) rfl rfl (by kernel_rfl) (by kernel_rfl) (by kernel_rfl) (fun _ _ _ h => h) (by rfl) ?_ (by assumption) ?_
  rotate_left
  · (intro w hSw; (try dsimp only at hSw); go_simp; try with_reducible rfl)
  try simp only [Act.put, List.setIfInBounds_toArray, List.set_cons_zero, List.set_cons_succ]
  refine region_take 7 (some 23) (v := ?_) rfl rfl (by kernel_rfl) (by kernel_rfl) (by kernel_rfl) (fun _ _ _ h => h) (by rfl) ?_ (by assumption) ?_
  rotate_left
  · (intro w hSw; (try dsimp only at hSw); go_simp; try with_reducible rfl)
  try simp only [Act.put, List.setIfInBounds_toArray, List.set_cons_zero, List.set_cons_succ]
  refine region_take 8 (some 24) (v := ?_) rfl rfl (by kernel_rfl) (by kernel_rfl) (by kernel_rfl) (fun _ _ _ h => h) (by rfl) ?_ (by assumption) ?_
  rotate_left
  · (intro w hSw; (try dsimp only at hSw); go_simp; try with_reducible rfl)
  try simp only [Act.put, List.setIfInBounds_toArray, List.set_cons_zero, List.set_cons_succ]
  refine region_take 9 (some 25) (v := ?_) rfl rfl (by kernel_rfl) (by kernel_rfl) (by kernel_rfl) (fun _ _ _ h => h) (by rfl) ?_ (by assumption) ?_
  rotate_left
  · (intro w hSw; (try dsimp only at hSw); go_simp; try with_reducible rfl)
  try simp only [Act.put, List.setIfInBounds_toArray, List.set_cons_zero, List.set_cons_succ]
  refine wpAnyH_ready (rs := [10]) (by kernel_rfl) (by simp) ?_
  refine AllReadyH.cons rfl (fun K hK => ?_) AllReadyH.nil
  go_simp
  refine HC.out.mono ?_
  rintro e w1 ⟨rfl, hb1⟩
  have HR1 : Hid (Rf R w1 A c bs p n 0 0) := Lib.hid ((HR.out.drewN 1).later hb1)
  have HK1 : Hid (Kx (Only R) w w1) := Lib.hid (Kx.w1.trans (.of_below hb1))
  have d0 := HR1.out.c0
  have d1 := HR1.out.c1
  have df := HR1.out.fr 1
  have hlt1 := HR1.out.lt
  clear hb1 hHeld c0 c1 c3 hlt
  go_wp2_with fail
  refine hK.out _ _ ⟨d0, d1⟩ (fun hHeld => ?_)
  clear hK K
  try simp only [Act.put, List.setIfInBounds_toArray, List.set_cons_zero, List.set_cons_succ]
  refine region_take 11 (some 15) (v := ?_) rfl rfl (by kernel_rfl) (by kernel_rfl) (by kernel_rfl) (fun _ _ _ h => h) (by rfl) ?_ (by assumption) ?_
  rotate_left
  · (intro w hSw; (try dsimp only at hSw); go_simp; try with_reducible rfl)
  try simp only [Act.put, List.setIfInBounds_toArray, List.set_cons_zero, List.set_cons_succ]
  refine region_take 12 (some 27) (v := ?_) rfl rfl (by kernel_rfl) (by kernel_rfl) (by kernel_rfl) (fun _ _ _ h => h) (by rfl) ?_ (by assumption) ?_
  rotate_left
  · (intro w hSw; (try dsimp only at hSw); go_simp; try with_reducible rfl)
  try simp only [Act.put, List.setIfInBounds_toArray, List.set_cons_zero, List.set_cons_succ]
  refine region_take 13 (some 28) (v := ?_) rfl rfl (by kernel_rfl) (by kernel_rfl) (by kernel_rfl) (fun _ _ _ h => h) (by rfl) ?_ (by assumption) ?_
  rotate_left
  · (intro w hSw; (try dsimp only at hSw); go_simp; try with_reducible rfl)
  try simp only [Act.put, List.setIfInBounds_toArray, List.set_cons_zero, List.set_cons_succ]
  refine region_take 14 (some 29) (v := ?_) rfl rfl (by kernel_rfl) (by kernel_rfl) (by kernel_rfl) (fun _ _ _ h => h) (by rfl) ?_ (by assumption) ?_
  rotate_left
  · (intro w hSw; (try dsimp only at hSw); go_simp; try with_reducible rfl)
  try simp only [Act.put, List.setIfInBounds_toArray, List.set_cons_zero, List.set_cons_succ]
  refine region_take 15 (some 7) (v := ?_) rfl rfl (by kernel_rfl) (by kernel_rfl) (by kernel_rfl) (fun _ _ _ h => h) (by rfl) ?_ (by assumption) ?_
  rotate_left
  · (intro w hSw; (try dsimp only at hSw); go_simp; try with_reducible rfl)
  try simp only [Act.put, List.setIfInBounds_toArray, List.set_cons_zero, List.set_cons_succ]
  refine region_take 16 (some 8) (v := ?_) rfl rfl (by kernel_rfl) (by kernel_rfl) (by kernel_rfl) (fun _ _ _ h => h) (by rfl) ?_ (by assumption) ?_
  rotate_left
  · (intro w hSw; (try dsimp only at hSw); go_simp; try with_reducible rfl)
  try simp only [Act.put, List.setIfInBounds_toArray, List.set_cons_zero, List.set_cons_succ]
  refine region_take 17 (some 9) (v := ?_) rfl rfl (by kernel_rfl) (by kernel_rfl) (by kernel_rfl) (fun _ _ _ h => h) (by rfl) ?_ (by assumption) ?_
  rotate_left
  · (intro w hSw; (try dsimp only at hSw); go_simp; try with_reducible rfl)
  try simp only [Act.put, List.setIfInBounds_toArray, List.set_cons_zero, List.set_cons_succ]
  refine wpAnyH_done (by kernel_rfl) ?_ _
  clear hHeld
  go_wp2_with fail
  go_ret
  exact ⟨rfl, HR1.out.setAt HP.out, HK1.out.setCell (.inl rfl) _⟩
/-- a number without a sign. -/
theorem NumU_any (h : RfS R w A c bs s) :
    Calls Tryz.prog 72 #[.pointer (some ⟨R, 0, none⟩), .int .i64 32, .bool false] w fun e w' => e = .returned (.int .u64 (onI bs s).1) ∧ RfS R w' A c bs (onI bs s).2 ∧ Kx (Only R) w w' := by
  rcases s with er | ⟨p, n⟩
  · obtain ⟨h0, p, n, h⟩ := h
    refine (Num_bad h h0 32 false).mono fun e w' ⟨he, hw⟩ => ?_
    subst hw
    exact ⟨he, ⟨h0, p, n, h⟩, .refl_⟩
  · have h : Rf R w A c bs p n 0 0 := h
    have hC := ReadU A c bs p 32 w.drew R (h.drewN 1).sl (Nat.le_of_lt h.lt) h.hc h.hm (by omega) (by have := h.hp; omega) (by decide) (by decide)
    rw [Int.toNat_natCast, show (32 : Int).toNat = 32 from rfl, Leb.uOf_drop] at hC
    unfold onI onS
    cases hr : rdInt (bs.drop p) p with
    | error er =>
      have hr' := hr
      unfold rdInt at hr
      split at hr
      · rename_i hu
        injection hr with hr
        subst hr
        rw [hu] at hC
        refine (Num_none h 32 false hC).mono fun e w' ⟨he, hr, hk⟩ => ⟨by simp only [hr']; exact he, by simp only [hr']; exact ⟨by simp, p, n, hr⟩, hk⟩
      · cases hr
    | ok r =>
      obtain ⟨x, l', p'⟩ := r
      have hr' := hr
      obtain ⟨-, -, hp'⟩ := Adv.dropped (int_got hr).2 h.hp
      unfold rdInt at hr
      split at hr
      · cases hr
      · rename_i u k hu
        injection hr with hr
        simp only [Prod.mk.injEq] at hr
        obtain ⟨rfl, -, rfl⟩ := hr
        rw [hu] at hC
        refine (Num_some h 32 false u (p + k) hp' hC).mono fun e w' ⟨he, hr, hk⟩ => ⟨by simp only [hr']; exact he, by simp only [hr']; exact hr, hk⟩
/-- a number with a sign. -/
theorem NumS_any (h : RfS R w A c bs s) (bits : Nat) (hb : bits = 32 ∨ bits = 64) :
    Calls Tryz.prog 72 #[.pointer (some ⟨R, 0, none⟩), .int .i64 bits, .bool true] w fun e w' => e = .returned (.int .u64 ((onG bits bs s).1 % 18446744073709551616)) ∧ RfS R w' A c bs (onG bits bs s).2 ∧ Kx (Only R) w w' := by
  rcases s with er | ⟨p, n⟩
  · obtain ⟨h0, p, n, h⟩ := h
    refine (Num_bad h h0 bits true).mono fun e w' ⟨he, hw⟩ => ?_
    subst hw
    exact ⟨he, ⟨h0, p, n, h⟩, .refl_⟩
  · have h : Rf R w A c bs p n 0 0 := h
    have hC := ReadS A c bs p bits w.drew R (h.drewN 1).sl (Nat.le_of_lt h.lt) h.hc h.hm (by omega) (by have := h.hp; omega) (by omega) (by omega)
    rw [Int.toNat_natCast, Int.toNat_natCast, Leb.sOf_drop] at hC
    unfold onG onS
    cases hr : rdSig bits (bs.drop p) p with
    | error er =>
      have hr' := hr
      unfold rdSig at hr
      split at hr
      · rename_i hu
        injection hr with hr
        subst hr
        rw [hu] at hC
        refine (Num_none h bits true hC).mono fun e w' ⟨he, hr, hk⟩ => ⟨by simp only [hr']; exact he, by simp only [hr']; exact ⟨by simp, p, n, hr⟩, hk⟩
      · cases hr
    | ok r =>
      obtain ⟨x, l', p'⟩ := r
      have hr' := hr
      have hadv : ∃ m, Adv (bs.drop p) p l' p' m := by
        rcases hb with rfl | rfl
        · exact ⟨_, (sig32_got hr).2⟩
        · exact ⟨_, (sig64_got hr).2⟩
      obtain ⟨_, hadv⟩ := hadv
      obtain ⟨-, -, hp'⟩ := Adv.dropped hadv h.hp
      unfold rdSig at hr
      split at hr
      · cases hr
      · rename_i u k hu
        injection hr with hr
        simp only [Prod.mk.injEq] at hr
        obtain ⟨rfl, -, rfl⟩ := hr
        rw [hu] at hC
        refine (Num_some h bits true (u % 18446744073709551616).toNat (p + k) hp' hC).mono fun e w' ⟨he, hr, hk⟩ => ⟨?_, by simp only [hr']; exact hr, hk⟩
        rw [he]
        simp only [hr']
        rw [Int.toNat_of_nonneg (by omega)]
/-- what an unsigned number is, at most. -/
theorem onInt_range (bs : List UInt8) (s : Sx) : 0 ≤ (onI bs s).1 ∧ (onI bs s).1 ≤ 4294967295 := by
  rcases s with er | ⟨p, n⟩
  · simp [onI, onS]
  · unfold onI onS
    cases hr : rdInt (bs.drop p) p with
    | error er => simp only [hr]; omega
    | ok r =>
      obtain ⟨x, l', p'⟩ := r
      simp only [hr]
      exact (num32_iff _).1 (int_got hr).1
set_option maxHeartbeats 2000000 in
set_option maxRecDepth 100000 in
theorem Int_any (h : RfS R w A c bs s) :
    Calls Tryz.prog 70 #[.pointer (some ⟨R, 0, none⟩)] w fun e w' => e = .returned (.int .i64 (onI bs s).1) ∧ RfS R w' A c bs (onI bs s).2 ∧ Kx (Only R) w w' := by
  have HN := Lib.hid (NumU_any h)
  obtain ⟨x0, x1⟩ := onInt_range bs s
  obtain ⟨x, hx⟩ : ∃ x, x = (onI bs s).1 := ⟨_, rfl⟩
  rw [← hx] at HN x0 x1 ⊢
  clear h hx
  go_enter Tryz.func70, Tryz.ntmps70
  go_wp2_with (first | (go_at_call 72; (with_reducible refine HN.out.mono ?_); rintro e w1 ⟨rfl, hr1, hk1⟩; have HR1 := Lib.hid hr1; have HK1 := Lib.hid hk1; clear hr1 hk1))
  go_ret
  exact ⟨by congr 2, HR1.out, HK1.out⟩
end
end Go.Proofs.YtbhniddgkdldlaaGreatDoor

/- The reference's reader of layer 6: contracts of Byte, Amiss, Must and kind, over its state. -/
namespace Go.Proofs.YtbhniddgkdldlaaGreatDoor.Trx
/-- the next byte; -1 where there is none. -/
def byteS (bs : List UInt8) : Sx → Int × Sx
  | .error er => (-1, .error er)
  | .ok (p, n) => match bs[p]? with
    | none => (-1, .error (2, bs.length))
    | some b => (b.toNat, .ok (p + 1, n))
/-- a byte 0 that must be; a block's result. -/
def onM (bs : List UInt8) (s : Sx) : Sx := (onS () (fun p => rdMust 0 (bs.drop p) p) s).2
def onK (bs : List UInt8) (s : Sx) : Int × Sx := onS 0 (fun p => rdKind (bs.drop p) p) s
/-- the first thing amiss stays. -/
def amS (k q : Nat) : Sx → Sx
  | .error er => .error er
  | .ok _ => .error (k, q)
end Go.Proofs.YtbhniddgkdldlaaGreatDoor.Trx
namespace Go.Proofs.YtbhniddgkdldlaaGreatDoor
open Go.RowKit Trx
section
variable {R : Nat} {w w' : World} {A : Option Addr} {c : Nat} {bs : List UInt8} {p n : Nat} {s : Sx}
theorem Byte_any (h : RfS R w A c bs s) :
    Calls Tryz.prog 41 #[.pointer (some ⟨R, 0, none⟩)] w fun e w' => e = .returned (.int .i64 (byteS bs s).1) ∧ RfS R w' A c bs (byteS bs s).2 ∧ Kx (Only R) w w' := by
  rcases s with er | ⟨p, n⟩
  · obtain ⟨h0, p, n, h⟩ := h
    refine (Byte_bad h h0).mono fun e w' ⟨he, nq, hw⟩ => ?_
    subst hw
    exact ⟨he, ⟨h0, p, n, h.drewN nq⟩, Kx.refl_.drewN nq⟩
  · have h : Rf R w A c bs p n 0 0 := h
    unfold byteS
    cases hg : bs[p]? with
    | none =>
      obtain ⟨rfl, -⟩ := at_end hg h.hp
      simp only [hg]
      exact (Byte_end h).mono fun e w' ⟨he, hr, hk⟩ => ⟨he, ⟨by simp, _, _, hr⟩, hk⟩
    | some b =>
      simp only [hg]
      exact (Byte_ok h b hg).mono fun e w' ⟨he, hr, hk⟩ => ⟨he, hr, hk⟩
theorem Amiss_any (h : RfS R w A c bs s) (k q : Nat) (hk : k ≠ 0) :
    Calls Tryz.prog 26 #[.pointer (some ⟨R, 0, none⟩), .int .i64 k, .int .i64 q] w fun e w' => e = .returned (.tuple #[]) ∧ RfS R w' A c bs (amS k q s) ∧ Kx (Only R) w w' := by
  rcases s with er | ⟨p, n⟩
  · obtain ⟨h0, p, n, h⟩ := h
    refine (Amiss_bad h h0 k q).mono fun e w' ⟨he, hw⟩ => ?_
    subst hw
    exact ⟨he, ⟨h0, p, n, h⟩, .refl_⟩
  · exact (Amiss_good (show Rf R w A c bs p n 0 0 from h) k q).mono fun e w' ⟨he, hr, hkx⟩ => ⟨he, ⟨hk, p, n, hr⟩, hkx⟩
theorem AmissS (k : Int) (m : Nat) (hk : (m : Int) = k) (hm : m ≠ 0) (h : RfS R w A c bs s) (q : Nat) :
    Calls Tryz.prog 26 #[.pointer (some ⟨R, 0, none⟩), .int .i64 k, .int .i64 q] w fun e w' => e = .returned (.tuple #[]) ∧ RfS R w' A c bs (amS m q s) ∧ Kx (Only R) w w' := by
  rw [← hk]
  exact Amiss_any h m q hm
/-- a byte that must be: what is left. -/
theorem must_st (x : UInt8) (bs : List UInt8) (s : Sx) (q : Nat) (hq : ∀ p n, s = .ok (p, n) → q = p ∧ p ≤ bs.length) :
    (if (byteS bs s).1 = x.toNat then (byteS bs s).2 else amS 2 q (byteS bs s).2) = (onS () (fun p => rdMust x (bs.drop p) p) s).2 := by
  rcases s with er | ⟨p, n⟩
  · unfold byteS onS
    rw [if_neg (by simp)]; rfl
  · obtain ⟨rfl, hp⟩ := hq p n rfl
    unfold byteS onS
    cases hg : bs[q]? with
    | none =>
      obtain ⟨hl, hd⟩ := at_end hg hp
      simp only [hg, hd, rdMust]
      rw [if_neg (by omega), ← hl]; rfl
    | some b =>
      simp only [hg, drop_at hg, must_cons]
      by_cases e : b = x
      · rw [if_pos (by rw [e]), if_pos e]
      · rw [if_neg (fun e2 => e (UInt8.toNat_inj.1 (by omega))), if_neg e]; rfl
set_option maxHeartbeats 2000000 in
set_option maxRecDepth 100000 in
theorem Must_any (h : RfS R w A c bs s) :
    Calls Tryz.prog 71 #[.pointer (some ⟨R, 0, none⟩), .int .i64 0] w fun e w' => e = .returned (.tuple #[]) ∧ RfS R w' A c bs (onM bs s) ∧ Kx (Only R) w w' := by
  have HB := Lib.hid (Byte_any h)
  have hlt := h.lt
  obtain ⟨q, c1, hq⟩ : ∃ q : Nat, w.cell? ⟨R, 1, none⟩ = some (.int .i64 q) ∧ ∀ p n, s = .ok (p, n) → q = p ∧ p ≤ bs.length := by
    rcases s with er | ⟨p, n⟩
    · obtain ⟨h0, p, n, h⟩ := h; exact ⟨p, h.c1, fun _ _ e => by cases e⟩
    · have h : Rf R w A c bs p n 0 0 := h
      exact ⟨p, h.c1, fun _ _ e => by cases e; exact ⟨rfl, h.hp⟩⟩
  unfold onM
  rw [← must_st 0 bs s q hq]
  clear h hq
  obtain ⟨y, hy⟩ : ∃ y, y = (byteS bs s).1 := ⟨_, rfl⟩
  obtain ⟨s1, hs1⟩ : ∃ s1, s1 = (byteS bs s).2 := ⟨_, rfl⟩
  rw [← hy, ← hs1] at HB ⊢
  clear hy hs1
  by_cases hx : y = 0
  · subst hx
    rw [if_pos (show (0 : Int) = ((0 : UInt8).toNat : Int) from rfl)]
    go_enter Tryz.func71, Tryz.ntmps71
    go_wp2_with (first | (go_at_call 41; (with_reducible refine HB.out.mono ?_); rintro e w1 ⟨rfl, hr1, hk1⟩; have HR1 := Lib.hid hr1; have HK1 := Lib.hid hk1; clear hr1 hk1))
    refine bodyPost_end (results_none rfl _ _ _) rfl ?_
    exact ⟨rfl, HR1.out, HK1.out⟩
  · rw [if_neg (by simpa using hx)]
    have ty : (y != 0) = true := by simpa using hx
    go_enter Tryz.func71, Tryz.ntmps71
    go_wp2_with (first
      | (go_at_call 41; (with_reducible refine HB.out.mono ?_); rintro e w1 ⟨rfl, hr1, hk1⟩; have HR1 := Lib.hid hr1; have HK1 := Lib.hid hk1; clear hr1 hk1)
      | (go_at_call 26; (with_reducible refine (AmissS 2 2 rfl (by decide) HR1.out q).mono ?_); rintro e w2 ⟨rfl, hr2, hk2⟩; have HR2 := Lib.hid hr2; have HK2 := Lib.hid (HK1.out.trans hk2); clear hr2 hk2))
    refine bodyPost_end (results_none rfl _ _ _) rfl ?_
    exact ⟨rfl, HR2.out, HK2.out⟩
/-- a block's result, by its byte. -/
def kindF (y : Int) (q : Nat) (s : Sx) : Int × Sx := if y = 64 then (0, s) else if y = 127 then (1, s) else if y = 126 then (2, s) else if y = 125 ∨ y = 124 then (0, amS 2 q (amS 3 q s)) else (0, amS 2 q s)
theorem kind_st (bs : List UInt8) (s : Sx) (q : Nat) (hq : ∀ p n, s = .ok (p, n) → q = p ∧ p ≤ bs.length) :
    kindF (byteS bs s).1 q (byteS bs s).2 = onK bs s := by
  unfold kindF onK
  rcases s with er | ⟨p, n⟩
  · unfold byteS onS
    simp [amS]
  · obtain ⟨rfl, hp⟩ := hq p n rfl
    unfold byteS onS
    cases hg : bs[q]? with
    | none =>
      obtain ⟨hl, hd⟩ := at_end hg hp
      simp only [hg, hd, rdKind]
      rw [← hl]
      simp [amS]
    | some b =>
      have t : ∀ k : UInt8, ((b.toNat : Int) = (k.toNat : Int)) ↔ b = k := fun k => ⟨fun e => UInt8.toNat_inj.1 (by omega), fun e => by rw [e]⟩
      have t1 := t 64; have t2 := t 127; have t3 := t 126; have t4 := t 125; have t5 := t 124
      rw [show (((64 : UInt8).toNat : Nat) : Int) = 64 from rfl] at t1
      rw [show (((127 : UInt8).toNat : Nat) : Int) = 127 from rfl] at t2
      rw [show (((126 : UInt8).toNat : Nat) : Int) = 126 from rfl] at t3
      rw [show (((125 : UInt8).toNat : Nat) : Int) = 125 from rfl] at t4
      rw [show (((124 : UInt8).toNat : Nat) : Int) = 124 from rfl] at t5
      simp only [hg, drop_at hg, kind_cons, t1, t2, t3, t4, t5]
      by_cases e1 : b = 64
      · rw [if_pos e1, if_pos e1]
      rw [if_neg e1, if_neg e1]
      by_cases e2 : b = 127
      · rw [if_pos e2, if_pos e2]
      rw [if_neg e2, if_neg e2]
      by_cases e3 : b = 126
      · rw [if_pos e3, if_pos e3]
      rw [if_neg e3, if_neg e3]
      by_cases e4 : b = 125 ∨ b = 124
      · rw [if_pos e4, if_pos e4]; rfl
      · rw [if_neg e4, if_neg e4]; rfl
set_option maxHeartbeats 4000000 in
set_option maxRecDepth 100000 in
theorem kind_any (h : RfS R w A c bs s) :
    Calls Tryz.prog 69 #[.pointer (some ⟨R, 0, none⟩)] w fun e w' => e = .returned (.int .i64 (onK bs s).1) ∧ RfS R w' A c bs (onK bs s).2 ∧ Kx (Only R) w w' := by
  have HB := Lib.hid (Byte_any h)
  have hlt := h.lt
  obtain ⟨q, c1, hq⟩ : ∃ q : Nat, w.cell? ⟨R, 1, none⟩ = some (.int .i64 q) ∧ ∀ p n, s = .ok (p, n) → q = p ∧ p ≤ bs.length := by
    rcases s with er | ⟨p, n⟩
    · obtain ⟨h0, p, n, h⟩ := h; exact ⟨p, h.c1, fun _ _ e => by cases e⟩
    · have h : Rf R w A c bs p n 0 0 := h
      exact ⟨p, h.c1, fun _ _ e => by cases e; exact ⟨rfl, h.hp⟩⟩
  rw [← kind_st bs s q hq]
  clear h hq
  obtain ⟨y, hy⟩ : ∃ y, y = (byteS bs s).1 := ⟨_, rfl⟩
  obtain ⟨s1, hs1⟩ : ∃ s1, s1 = (byteS bs s).2 := ⟨_, rfl⟩
  rw [← hy, ← hs1] at HB ⊢
  clear hy hs1
  unfold kindF
  by_cases e1 : y = 64
  · subst e1
    rw [if_pos rfl]
    go_enter Tryz.func69, Tryz.ntmps69
    go_wp2_with (first | (go_at_call 41; (with_reducible refine HB.out.mono ?_); rintro e w1 ⟨rfl, hr1, hk1⟩; have HR1 := Lib.hid hr1; have HK1 := Lib.hid hk1; clear hr1 hk1))
    go_ret
    exact ⟨rfl, HR1.out, HK1.out⟩
  rw [if_neg e1]
  have t1 : (y == 64) = false := by simpa using e1
  by_cases e2 : y = 127
  · subst e2
    rw [if_pos rfl]
    go_enter Tryz.func69, Tryz.ntmps69
    go_wp2_with (first | (go_at_call 41; (with_reducible refine HB.out.mono ?_); rintro e w1 ⟨rfl, hr1, hk1⟩; have HR1 := Lib.hid hr1; have HK1 := Lib.hid hk1; clear hr1 hk1))
    go_ret
    exact ⟨rfl, HR1.out, HK1.out⟩
  rw [if_neg e2]
  have t2 : (y == 127) = false := by simpa using e2
  by_cases e3 : y = 126
  · subst e3
    rw [if_pos rfl]
    go_enter Tryz.func69, Tryz.ntmps69
    go_wp2_with (first | (go_at_call 41; (with_reducible refine HB.out.mono ?_); rintro e w1 ⟨rfl, hr1, hk1⟩; have HR1 := Lib.hid hr1; have HK1 := Lib.hid hk1; clear hr1 hk1))
    go_ret
    exact ⟨rfl, HR1.out, HK1.out⟩
  rw [if_neg e3]
  have t3 : (y == 126) = false := by simpa using e3
  by_cases e4 : y = 125 ∨ y = 124
  · rw [if_pos e4]
    have e5 : ((y == 125) = true) ∨ ((y == 125) = false ∧ (y == 124) = true) := by
      rcases e4 with h | h
      · exact .inl (by simp [h])
      · exact .inr ⟨by simp [h], by simp [h]⟩
    clear e4
    rcases e5 with t4 | ⟨t4, t5⟩
    all_goals
      go_enter Tryz.func69, Tryz.ntmps69
      go_wp2_with (first
        | (go_at_call 41; (with_reducible refine HB.out.mono ?_); rintro e w1 ⟨rfl, hr1, hk1⟩; have HR1 := Lib.hid hr1; have HK1 := Lib.hid hk1; clear hr1 hk1)
        | (go_at_call 26; (with_reducible refine (AmissS 3 3 rfl (by decide) HR1.out q).mono ?_); rintro e w2 ⟨rfl, hr2, hk2⟩; have HR2 := Lib.hid hr2; have HK2 := Lib.hid (HK1.out.trans hk2); clear hr2 hk2)
        | (go_at_call 26; (with_reducible refine (AmissS 2 2 rfl (by decide) HR2.out q).mono ?_); rintro e w3 ⟨rfl, hr3, hk3⟩; have HR3 := Lib.hid hr3; have HK3 := Lib.hid (HK2.out.trans hk3); clear hr3 hk3))
      go_ret
      exact ⟨rfl, HR3.out, HK3.out⟩
  rw [if_neg e4]
  have t4 : (y == 125) = false := by simp; omega
  have t5 : (y == 124) = false := by simp; omega
  clear e1 e2 e3 e4
  go_enter Tryz.func69, Tryz.ntmps69
  go_wp2_with (first
    | (go_at_call 41; (with_reducible refine HB.out.mono ?_); rintro e w1 ⟨rfl, hr1, hk1⟩; have HR1 := Lib.hid hr1; have HK1 := Lib.hid hk1; clear hr1 hk1)
    | (go_at_call 26; (with_reducible refine (AmissS 2 2 rfl (by decide) HR1.out q).mono ?_); rintro e w2 ⟨rfl, hr2, hk2⟩; have HR2 := Lib.hid hr2; have HK2 := Lib.hid (HK1.out.trans hk2); clear hr2 hk2))
  go_ret
  exact ⟨rfl, HR2.out, HK2.out⟩
end
end Go.Proofs.YtbhniddgkdldlaaGreatDoor
