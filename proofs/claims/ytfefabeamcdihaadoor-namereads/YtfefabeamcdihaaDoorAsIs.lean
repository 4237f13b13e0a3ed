/- errors.Is by its contract, where the error is a *api.Spot that tells of an api.Code, and what is looked for is an api.Code. Plain lemmas, no condition. -/
import Derived.Test.YtfefabeamcdihaaDoorAs
namespace Go.Proofs.YtfefabeamcdihaaDoor
open Go.RowKit Go.Extern.Stop Go.Stop Go.Extern

/-! errors.Is, where what is looked for is a Code. -/
def Is.cmp : Array Value → Sem Value := ReflectliteType.method fun t => do Rtype.noPackHeld "Comparable" t; pure (.bool (← typeInfo t).comparable)
theorem Is.comparableC (w : World) : (Is.cmp #[.agg #[.pointer (some ⟨3, 33, none⟩)]]).run Tryd.prog w = .ok (.bool true) w := by kernel_rfl
theorem Is.methodComparable (v : Value) (w : World) : (Go.method 220 76 v "Comparable").run Tryd.prog w = .ok (60, v) w := by kernel_rfl
theorem Is.noIsP (v : Value) (xT : TypeId) (w : World) : (Instr.typeAssert (.iface 45 v) xT 88 true).run Tryd.prog w = .ok (.tuple #[.nilIface, .bool false]) w := run_typeAssert_lacksB Tryd.underlying88 (by kernel_rfl) (by kernel_rfl) v xT w
theorem Is.noIsC (v : Value) (xT : TypeId) (w : World) : (Instr.typeAssert (.iface 33 v) xT 88 true).run Tryd.prog w = .ok (.tuple #[.nilIface, .bool false]) w := run_typeAssert_lacksB Tryd.underlying88 (by kernel_rfl) (by kernel_rfl) v xT w
theorem Is.noUnwrapC (v : Value) (xT : TypeId) (w : World) : (Instr.typeAssert (.iface 33 v) xT 83 true).run Tryd.prog w = .ok (.tuple #[.nilIface, .bool false]) w := run_typeAssert_lacksB Tryd.underlying83 (by kernel_rfl) (by kernel_rfl) v xT w
theorem Is.noUnwrapsC (v : Value) (xT : TypeId) (w : World) : (Instr.typeAssert (.iface 33 v) xT 85 true).run Tryd.prog w = .ok (.tuple #[.nilIface, .bool false]) w := run_typeAssert_lacksB Tryd.underlying85 (by kernel_rfl) (by kernel_rfl) v xT w
theorem Is.hasUnwrapP (v : Value) (xT : TypeId) (w : World) : (Instr.typeAssert (.iface 45 v) xT 83 true).run Tryd.prog w = .ok (.tuple #[.iface 45 v, .bool true]) w := run_typeAssert_hasB Tryd.underlying83 (by kernel_rfl) v xT w
theorem Is.methodUnwrap (v : Value) (w : World) : (Go.method 220 45 v "Unwrap").run Tryd.prog w = .ok (54, v) w := by kernel_rfl

set_option maxHeartbeats 4000000 in
set_option maxRecDepth 100000 in
/-- errors.Is(a Spot that tells of a Code, a Code). -/
theorem is_spot (b o : Nat) (c x : Int) (w : World) (h1 : w.cell? ⟨b, o + 1, none⟩ = some (.iface 33 (.int .i64 c))) :
    Calls Tryd.prog 20 #[.iface 45 (.pointer (some ⟨b, o, none⟩)), .iface 33 (.int .i64 x)] w fun e w' => e = .returned (.bool (c == x)) ∧ w' = w := by
  have h8 := @run_callFunc_extern Tryd.prog 29 _ ReflectliteType.typeOf Tryd.func29 (by kernel_rfl) (by kernel_rfl) (by kernel_rfl) (by kernel_rfl)
  have h32 := @run_callFunc_extern Tryd.prog 60 _ Is.cmp Tryd.func60 (by kernel_rfl) (by kernel_rfl) (by kernel_rfl) (by kernel_rfl)
  have tT := As.typeOfC
  have cT := Is.comparableC
  have mR := Is.methodComparable
  have n1 := Is.noIsP
  have n2 := Is.noIsC
  have n3 := Is.noUnwrapC
  have n4 := Is.noUnwrapsC
  have u1 := Is.hasUnwrapP
  have mU := Is.methodUnwrap
  have hty := run_eql_iface_types (P := Tryd.prog) 45 33 (.pointer (some ⟨b, o, none⟩)) (.int .i64 x) Tryd.underlying26 (by decide) w
  have heq := run_eql_code w c x
  obtain ⟨r, hr⟩ : ∃ r, (c == x) = r := ⟨_, rfl⟩
  rw [hr] at heq ⊢
  clear hr
  cases r
  all_goals
    go_enter Tryd.func20, Tryd.ntmps20
    go_wp2
    refine wp_loop_rounds 2 ?_
    rw [rounds_succ]
    go_wp2
    rw [rounds_succ]
    go_wp2
    go_ret
    exact ⟨rfl, rfl⟩

end Go.Proofs.YtfefabeamcdihaaDoor
