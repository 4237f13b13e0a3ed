/- grommetlaw03.NumBack returns true for every input. -/
import Derived.Test.YtdenmbigdklhkaaDoorNumLZ
import Derived.Test.YtdenmbigdklhkaaDoorNumLO
import Derived.Test.YtdenmbigdklhkaaDoorNumLN
namespace Go.Proofs.YtdenmbigdklhkaaDoor
open Go.RowKit

theorem walk_NumBack (a b : Int) (wide : Bool) (w : World) (ha : (Lit.int .u64 a).wf = true) (hb : (Lit.int .u64 b).wf = true) (hT : TabT w) :
    Calls Tryd.prog 6 #[.int .u64 a, .int .u64 b, .bool wide] w fun e w' => e = .returned (.bool true) ∧ Below w.heap.size w w' := by
  have h1 := bounds_u64 ha
  have h2 := bounds_u64 hb
  cases wide
  · by_cases hz : b % 4294967296 = 0
    · exact back32Z a b w (by omega) (by omega) hT hz
    · by_cases hov : a % 4294967296 = 2147483648 ∧ b % 4294967296 = 4294967296 - 1
      · exact back32O a b w (by omega) (by omega) hT hov.1 hov.2
      · exact back32N a b w (by omega) (by omega) hT hz hov
  · by_cases hz : b = 0
    · exact back64Z a b w (by omega) (by omega) hT hz
    · by_cases hov : a = 9223372036854775808 ∧ b = 18446744073709551616 - 1
      · exact back64O a b w (by omega) (by omega) hT hov.1 hov.2
      · exact back64N a b w (by omega) (by omega) hT hz hov

end Go.Proofs.YtdenmbigdklhkaaDoor
