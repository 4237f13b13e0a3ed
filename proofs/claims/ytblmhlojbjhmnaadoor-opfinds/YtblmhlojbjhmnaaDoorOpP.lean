/- The walk of OpFinds. -/
import Derived.Test.YtblmhlojbjhmnaaDoorOpO
namespace Go.Proofs.YtblmhlojbjhmnaaDoor
open Go.RowKit

theorem pre4 (s p : ByteArray) (hp : p.size = 4) (h : 4 ≤ s.size) : ((s.extract 0 4).toList == p.toList) = Lib.hasPrefix s.data.toList p.data.toList := by
  rw [← Lib.hasPrefix_raw, hp]; simp [h]
theorem pre4_not (s p : ByteArray) (hp : p.size = 4) (h : ¬ 4 ≤ s.size) : Lib.hasPrefix s.data.toList p.data.toList = false := by
  rw [← Lib.hasPrefix_raw, hp]; simp [h]

set_option maxHeartbeats 4000000 in
set_option maxRecDepth 100000 in
theorem Floating_any (s : ByteArray) (w : World) (hs : s.size ≤ 100) :
    Calls Tryd.prog 14 #[.string s] w fun e w' => e = .returned (.bool (Opx.flD s.data.toList)) ∧ w = w' := by
  have HE0 := Lib.hid (fun w => ends_any s ⟨#[95, 102, 51, 50]⟩ w (by omega) (by decide))
  have HE1 := Lib.hid (fun w => ends_any s ⟨#[95, 102, 54, 52]⟩ w (by omega) (by decide))
  have HE2 := Lib.hid (fun w => ends_any s ⟨#[95, 102, 51, 50, 95, 115]⟩ w (by omega) (by decide))
  have HE3 := Lib.hid (fun w => ends_any s ⟨#[95, 102, 51, 50, 95, 117]⟩ w (by omega) (by decide))
  have HE4 := Lib.hid (fun w => ends_any s ⟨#[95, 102, 54, 52, 95, 115]⟩ w (by omega) (by decide))
  have HE5 := Lib.hid (fun w => ends_any s ⟨#[95, 102, 54, 52, 95, 117]⟩ w (by omega) (by decide))
  have hp1 := pre4 s ⟨#[102, 51, 50, 46]⟩ rfl
  have hp2 := pre4 s ⟨#[102, 54, 52, 46]⟩ rfl
  have hn1 := pre4_not s ⟨#[102, 51, 50, 46]⟩ rfl
  have hn2 := pre4_not s ⟨#[102, 54, 52, 46]⟩ rfl
  have hfl : Opx.flD s.data.toList = (Lib.hasPrefix s.data.toList [102, 51, 50, 46] || Lib.hasPrefix s.data.toList [102, 54, 52, 46] || (Lib.hasSuffix s.data.toList [95, 102, 51, 50] || Lib.hasSuffix s.data.toList [95, 102, 54, 52] || Lib.hasSuffix s.data.toList [95, 102, 51, 50, 95, 115] || Lib.hasSuffix s.data.toList [95, 102, 51, 50, 95, 117] || Lib.hasSuffix s.data.toList [95, 102, 54, 52, 95, 115] || Lib.hasSuffix s.data.toList [95, 102, 54, 52, 95, 117])) := rfl
  have u1 : (⟨#[102, 51, 50, 46]⟩ : ByteArray).toList = [102, 51, 50, 46] := by rw [Lib.toList_data]
  have u2 : (⟨#[102, 54, 52, 46]⟩ : ByteArray).toList = [102, 54, 52, 46] := by rw [Lib.toList_data]
  simp only [u1, u2] at hp1 hp2 hn1 hn2 HE0 HE1 HE2 HE3 HE4 HE5
  clear u1 u2
  generalize Lib.hasPrefix s.data.toList [102, 51, 50, 46] = p1 at hp1 hn1 hfl
  generalize Lib.hasPrefix s.data.toList [102, 54, 52, 46] = p2 at hp2 hn2 hfl
  generalize Lib.hasSuffix s.data.toList [95, 102, 51, 50] = e0 at HE0 hfl
  generalize Lib.hasSuffix s.data.toList [95, 102, 54, 52] = e1 at HE1 hfl
  generalize Lib.hasSuffix s.data.toList [95, 102, 51, 50, 95, 115] = e2 at HE2 hfl
  generalize Lib.hasSuffix s.data.toList [95, 102, 51, 50, 95, 117] = e3 at HE3 hfl
  generalize Lib.hasSuffix s.data.toList [95, 102, 54, 52, 95, 115] = e4 at HE4 hfl
  generalize Lib.hasSuffix s.data.toList [95, 102, 54, 52, 95, 117] = e5 at HE5 hfl
  generalize Opx.flD s.data.toList = f at hfl ⊢
  have HF := Lib.hid hfl
  clear hfl
  by_cases h4 : 4 ≤ s.size
  · have t4 : decide (4 ≤ (s.size : Int)) = true := by simp; omega
    have hq1 := hp1 h4
    have hq2 := hp2 h4
    clear hn1 hn2 hp1 hp2
    cases p1 with
    | true =>
      go_enter Tryd.func14, Tryd.ntmps14
      go_wp2
      go_ret
      exact ⟨ret_bool (by rw [HF.out]; simp), rfl⟩
    | false =>
      cases p2 with
      | true =>
        go_enter Tryd.func14, Tryd.ntmps14
        go_wp2
        go_ret
        exact ⟨ret_bool (by rw [HF.out]; simp), rfl⟩
      | false =>
        go_enter Tryd.func14, Tryd.ntmps14
        go_wp2_with (go_at_call 21; (first | with_reducible refine (HE0.out _).mono ?_ | with_reducible refine (HE1.out _).mono ?_ | with_reducible refine (HE2.out _).mono ?_ | with_reducible refine (HE3.out _).mono ?_ | with_reducible refine (HE4.out _).mono ?_ | with_reducible refine (HE5.out _).mono ?_); rintro e w' ⟨rfl, rfl⟩)
        all_goals
          go_ret
          exact ⟨ret_bool (by rw [HF.out]; simp_all), rfl⟩
  · have t4 : decide (4 ≤ (s.size : Int)) = false := by simp; omega
    obtain rfl := hn1 h4
    obtain rfl := hn2 h4
    clear hp1 hp2 h4 hn1 hn2
    go_enter Tryd.func14, Tryd.ntmps14
    go_wp2_with (go_at_call 21; (first | with_reducible refine (HE0.out _).mono ?_ | with_reducible refine (HE1.out _).mono ?_ | with_reducible refine (HE2.out _).mono ?_ | with_reducible refine (HE3.out _).mono ?_ | with_reducible refine (HE4.out _).mono ?_ | with_reducible refine (HE5.out _).mono ?_); rintro e w' ⟨rfl, rfl⟩)
    all_goals
      go_ret
      exact ⟨ret_bool (by rw [HF.out]; simp_all), rfl⟩

end Go.Proofs.YtblmhlojbjhmnaaDoor
