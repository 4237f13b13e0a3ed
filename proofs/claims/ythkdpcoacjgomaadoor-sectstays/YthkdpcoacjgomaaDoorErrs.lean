/- '==' between two errors that are numbers of the type api.Code: as the numbers are. Plain lemmas, no condition. -/
import Derived.Test.YthkdpcoacjgomaaDoorMem
import Derived.LaidEql
set_option linter.unusedVariables false
set_option linter.unusedSimpArgs false
namespace Go.Proofs.YthkdpcoacjgomaaDoor
open Go.RowKit

/-- two values of one integer type, held as interface values, are the same just if the numbers are. -/
theorem run_same_code {P : Program} {tI tC : TypeId} {ms : Array (String × TypeId)} {inf : TypeInfo} {k : IntKind} (w : World) (x y : Int)
    (h1 : P.underlying tI = some (.interface ms)) (h2 : P.underlying tC = some (.int k)) (h3 : P.info? tC = some inf) (h4 : inf.comparable = true) :
    (binOp .eql tI (.iface tC (.int k x)) (.iface tC (.int k y))).run P w = .ok (.bool (x == y)) w := by
  have h : ∀ d, (Op.equalIn (d + 2) tI (.iface tC (.int k x)) (.iface tC (.int k y))).run P w = .ok (x == y) w := fun d => by
    simp [Op.equalIn, run_underlying h1, run_underlying h2, typeInfo, h3, h4]
  simp only [binOp]
  simp [Op.equal, Op.maxDepth, h 9998]

theorem run_unlike_code {P : Program} {tI tC : TypeId} {ms : Array (String × TypeId)} {inf : TypeInfo} {k : IntKind} (w : World) (x y : Int)
    (h1 : P.underlying tI = some (.interface ms)) (h2 : P.underlying tC = some (.int k)) (h3 : P.info? tC = some inf) (h4 : inf.comparable = true) :
    (binOp .neq tI (.iface tC (.int k x)) (.iface tC (.int k y))).run P w = .ok (.bool (x != y)) w := by
  have h : ∀ d, (Op.equalIn (d + 2) tI (.iface tC (.int k x)) (.iface tC (.int k y))).run P w = .ok (x == y) w := fun d => by
    simp [Op.equalIn, run_underlying h1, run_underlying h2, typeInfo, h3, h4]
  simp only [binOp]
  simp [Op.equal, Op.maxDepth, h 9998, bne]

theorem code_info : (Tryd.prog.info? 41).map (fun i => i.comparable) = some true := by kernel_rfl
/-- err == c, both of them Codes. -/
theorem run_eql_code (w : World) (x y : Int) : (binOp .eql 26 (.iface 41 (.int .i64 x)) (.iface 41 (.int .i64 y))).run Tryd.prog w = .ok (.bool (x == y)) w := by
  obtain ⟨i, hi, hc⟩ := Option.map_eq_some_iff.1 code_info
  exact run_same_code w x y Tryd.underlying26 Tryd.underlying41 hi hc
theorem run_neq_code (w : World) (x y : Int) : (binOp .neq 26 (.iface 41 (.int .i64 x)) (.iface 41 (.int .i64 y))).run Tryd.prog w = .ok (.bool (x != y)) w := by
  obtain ⟨i, hi, hc⟩ := Option.map_eq_some_iff.1 code_info
  exact run_unlike_code w x y Tryd.underlying26 Tryd.underlying41 hi hc

end Go.Proofs.YthkdpcoacjgomaaDoor
