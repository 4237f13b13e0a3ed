/- '==' between two errors that are numbers of the type api.Code: as the numbers are. Plain lemmas, no condition. -/
import Derived.Test.YtbhniddgkdldlaaGreatDoorMem
import Derived.LaidEql
set_option linter.unusedVariables false
set_option linter.unusedSimpArgs false
namespace Go.Proofs.YtbhniddgkdldlaaGreatDoor
open Go.RowKit

/-- two values of one integer type, held as interface values, are the same just if the numbers are. -/
theorem run_same_code {P : Program} {tI tC : TypeId} {ms : Array (String × TypeId)} {inf : TypeInfo} {k : IntKind} (w : World) (x y : Int)
    (h1 : P.underlying tI = some (.interface ms)) (h2 : P.underlying tC = some (.int k)) (h3 : P.info? tC = some inf) (h4 : inf.comparable = true) :
    (binOp .eql tI (.iface tC (.int k x)) (.iface tC (.int k y))).run P w = .ok (.bool (x == y)) w := by
  have h : ∀ d, (Op.equalIn (d + 2) tI (.iface tC (.int k x)) (.iface tC (.int k y))).run P w = .ok (x == y) w := fun d => by
    simp [Op.equalIn, run_underlying h1, run_underlying h2, typeInfo, h3, h4]
  simp only [binOp]
  simp [Op.equal, Op.maxDepth, h 9998]

theorem run_unlike_code {P : Program} {tI tC : TypeId} {ms : Array (String × TypeId)} {inf : TypeInfo} {k : IntKind} (w : World) (x y : Int)
    (h1 : P.underlying tI = some (.interface ms)) (h2 : P.underlying tC = some (.int k)) (h3 : P.info? tC = some inf) (h4 : inf.comparable = true) :
    (binOp .neq tI (.iface tC (.int k x)) (.iface tC (.int k y))).run P w = .ok (.bool (x != y)) w := by
  have h : ∀ d, (Op.equalIn (d + 2) tI (.iface tC (.int k x)) (.iface tC (.int k y))).run P w = .ok (x == y) w := fun d => by
    simp [Op.equalIn, run_underlying h1, run_underlying h2, typeInfo, h3, h4]
  simp only [binOp]
  simp [Op.equal, Op.maxDepth, h 9998, bne]

theorem code_info : (Tryz.prog.info? 32).map (fun i => i.comparable) = some true := by kernel_rfl
/-- err == c, both of them Codes. -/
theorem run_eql_code (w : World) (x y : Int) : (binOp .eql 28 (.iface 32 (.int .i64 x)) (.iface 32 (.int .i64 y))).run Tryz.prog w = .ok (.bool (x == y)) w := by
  obtain ⟨i, hi, hc⟩ := Option.map_eq_some_iff.1 code_info
  exact run_same_code w x y Tryz.underlying28 Tryz.underlying32 hi hc
theorem run_neq_code (w : World) (x y : Int) : (binOp .neq 28 (.iface 32 (.int .i64 x)) (.iface 32 (.int .i64 y))).run Tryz.prog w = .ok (.bool (x != y)) w := by
  obtain ⟨i, hi, hc⟩ := Option.map_eq_some_iff.1 code_info
  exact run_unlike_code w x y Tryz.underlying28 Tryz.underlying32 hi hc

end Go.Proofs.YtbhniddgkdldlaaGreatDoor
