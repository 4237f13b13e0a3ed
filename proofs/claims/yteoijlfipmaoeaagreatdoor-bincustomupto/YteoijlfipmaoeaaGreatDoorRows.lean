/-
  NARROWER THAN 'FOR EVERY INPUT', by the rows' own cells (each row's printed sentence says how): BinEncodes: loops, laid · BinBack: loops, laid · BinCustom: loops, laid · BinStays: loops, laid.
  DERIVED. THE GIVEN ROWS OF THIS SEAT. 4 by the template 'for every input the law returns true; each argument reads behind the call as it read before'; 0 by the template 'total and deterministic' (their statements: YteoijlfipmaoeaaGreatDoorTotals.lean).
  GIVEN WITH THE SEED: the statements are not yours to turn. If you find one false, say at which input.
  Laid BY PROGRAM, IN A SANDBOX (cutbox-rows.mjs): the forced cells as the released guide's own fill.sh prints them over the translation e8f52e56c477331d… (all of the seat's roots in one cut). By AI agents, Wed Nov 11 2026. No macro, syntax, notation, axiom, sorry.
-/
import Derived.Test.YteoijlfipmaoeaaGreatDoorChecked
import GoSem.PinnedTables
import GoSem.Claim
import GoSem.ClaimJoined
import GoSem.ClaimMapViews
import Derived.JoinedTies
import Derived.KernelRfl
namespace Go.Proofs.YteoijlfipmaoeaaGreatDoor
/- THE CELL 'sum', in the pinned program and in every row, IS THE sha256 OF THE DUMP (.gsa) THAT YteoijlfipmaoeaaGreatDoorProg.lean LOADS. Nothing in Lean hashes anything: it is a label: what it is worth is what the hold of that sum in a sandbox is worth. -/
noncomputable def Tryz.pinned : Pinned := { name := "yteoijlfipmaoeaagreatdoor", sum := "e8f52e56c477331dae083d822c66d27442abe447a3c8d10c224d45dc47b844fa", checked := Tryz.checked }
namespace Rows
def none {H : Type} : Left H := { results := [], args := [] }

/- WHAT THE LISTED PACKAGE-LEVEL VARIABLES READ AS WHEN THE CALL BEGINS. Each datum BY PROGRAM (the guide's laid-datum.mjs) off the statement by which the dump's own 'gosem.cut.vars' lays the variable. In a bare row this is a premise. The card (YteoijlfipmaoeaaGreatDoorCards.lean) ties it to the program's text. -/
def laid_unicode_utf8_acceptRanges {H : Type} : DataW H := .agg [.agg [.lit (.int .u8 128), .lit (.int .u8 191)], .agg [.lit (.int .u8 160), .lit (.int .u8 191)], .agg [.lit (.int .u8 128), .lit (.int .u8 159)], .agg [.lit (.int .u8 144), .lit (.int .u8 191)], .agg [.lit (.int .u8 128), .lit (.int .u8 143)], .agg [.lit (.int .u8 0), .lit (.int .u8 0)], .agg [.lit (.int .u8 0), .lit (.int .u8 0)], .agg [.lit (.int .u8 0), .lit (.int .u8 0)], .agg [.lit (.int .u8 0), .lit (.int .u8 0)], .agg [.lit (.int .u8 0), .lit (.int .u8 0)], .agg [.lit (.int .u8 0), .lit (.int .u8 0)], .agg [.lit (.int .u8 0), .lit (.int .u8 0)], .agg [.lit (.int .u8 0), .lit (.int .u8 0)], .agg [.lit (.int .u8 0), .lit (.int .u8 0)], .agg [.lit (.int .u8 0), .lit (.int .u8 0)], .agg [.lit (.int .u8 0), .lit (.int .u8 0)]]
def laid_errors_errorType {H : Type} : DataW H := .iface "internal/reflectlite.rtype" (.agg [.ptr (.lit (.string [101, 114, 114, 111, 114]))])
def laid_grommet_op_names {H : Type} : DataW H := .agg [.lit (.string [117, 110, 114, 101, 97, 99, 104, 97, 98, 108, 101]), .lit (.string [110, 111, 112]), .lit (.string [98, 108, 111, 99, 107]), .lit (.string [108, 111, 111, 112]), .lit (.string [105, 102]), .lit (.string []), .lit (.string []), .lit (.string []), .lit (.string []), .lit (.string []), .lit (.string []), .lit (.string []), .lit (.string [98, 114]), .lit (.string [98, 114, 95, 105, 102]), .lit (.string [98, 114, 95, 116, 97, 98, 108, 101]), .lit (.string [114, 101, 116, 117, 114, 110]), .lit (.string [99, 97, 108, 108]), .lit (.string [99, 97, 108, 108, 95, 105, 110, 100, 105, 114, 101, 99, 116]), .lit (.string []), .lit (.string []), .lit (.string []), .lit (.string []), .lit (.string []), .lit (.string []), .lit (.string []), .lit (.string []), .lit (.string [100, 114, 111, 112]), .lit (.string [115, 101, 108, 101, 99, 116]), .lit (.string []), .lit (.string []), .lit (.string []), .lit (.string []), .lit (.string [108, 111, 99, 97, 108, 46, 103, 101, 116]), .lit (.string [108, 111, 99, 97, 108, 46, 115, 101, 116]), .lit (.string [108, 111, 99, 97, 108, 46, 116, 101, 101]), .lit (.string [103, 108, 111, 98, 97, 108, 46, 103, 101, 116]), .lit (.string [103, 108, 111, 98, 97, 108, 46, 115, 101, 116]), .lit (.string []), .lit (.string []), .lit (.string []), .lit (.string [105, 51, 50, 46, 108, 111, 97, 100]), .lit (.string [105, 54, 52, 46, 108, 111, 97, 100]), .lit (.string []), .lit (.string []), .lit (.string [105, 51, 50, 46, 108, 111, 97, 100, 56, 95, 115]), .lit (.string [105, 51, 50, 46, 108, 111, 97, 100, 56, 95, 117]), .lit (.string [105, 51, 50, 46, 108, 111, 97, 100, 49, 54, 95, 115]), .lit (.string [105, 51, 50, 46, 108, 111, 97, 100, 49, 54, 95, 117]), .lit (.string [105, 54, 52, 46, 108, 111, 97, 100, 56, 95, 115]), .lit (.string [105, 54, 52, 46, 108, 111, 97, 100, 56, 95, 117]), .lit (.string [105, 54, 52, 46, 108, 111, 97, 100, 49, 54, 95, 115]), .lit (.string [105, 54, 52, 46, 108, 111, 97, 100, 49, 54, 95, 117]), .lit (.string [105, 54, 52, 46, 108, 111, 97, 100, 51, 50, 95, 115]), .lit (.string [105, 54, 52, 46, 108, 111, 97, 100, 51, 50, 95, 117]), .lit (.string [105, 51, 50, 46, 115, 116, 111, 114, 101]), .lit (.string [105, 54, 52, 46, 115, 116, 111, 114, 101]), .lit (.string []), .lit (.string []), .lit (.string [105, 51, 50, 46, 115, 116, 111, 114, 101, 56]), .lit (.string [105, 51, 50, 46, 115, 116, 111, 114, 101, 49, 54]), .lit (.string [105, 54, 52, 46, 115, 116, 111, 114, 101, 56]), .lit (.string [105, 54, 52, 46, 115, 116, 111, 114, 101, 49, 54]), .lit (.string [105, 54, 52, 46, 115, 116, 111, 114, 101, 51, 50]), .lit (.string [109, 101, 109, 111, 114, 121, 46, 115, 105, 122, 101]), .lit (.string [109, 101, 109, 111, 114, 121, 46, 103, 114, 111, 119]), .lit (.string [105, 51, 50, 46, 99, 111, 110, 115, 116]), .lit (.string [105, 54, 52, 46, 99, 111, 110, 115, 116])]
def laid_grommet_op_numbers {H : Type} : DataW H := .agg [.lit (.string [105, 51, 50, 46, 101, 113, 122]), .lit (.string [105, 51, 50, 46, 101, 113]), .lit (.string [105, 51, 50, 46, 110, 101]), .lit (.string [105, 51, 50, 46, 108, 116, 95, 115]), .lit (.string [105, 51, 50, 46, 108, 116, 95, 117]), .lit (.string [105, 51, 50, 46, 103, 116, 95, 115]), .lit (.string [105, 51, 50, 46, 103, 116, 95, 117]), .lit (.string [105, 51, 50, 46, 108, 101, 95, 115]), .lit (.string [105, 51, 50, 46, 108, 101, 95, 117]), .lit (.string [105, 51, 50, 46, 103, 101, 95, 115]), .lit (.string [105, 51, 50, 46, 103, 101, 95, 117]), .lit (.string [105, 54, 52, 46, 101, 113, 122]), .lit (.string [105, 54, 52, 46, 101, 113]), .lit (.string [105, 54, 52, 46, 110, 101]), .lit (.string [105, 54, 52, 46, 108, 116, 95, 115]), .lit (.string [105, 54, 52, 46, 108, 116, 95, 117]), .lit (.string [105, 54, 52, 46, 103, 116, 95, 115]), .lit (.string [105, 54, 52, 46, 103, 116, 95, 117]), .lit (.string [105, 54, 52, 46, 108, 101, 95, 115]), .lit (.string [105, 54, 52, 46, 108, 101, 95, 117]), .lit (.string [105, 54, 52, 46, 103, 101, 95, 115]), .lit (.string [105, 54, 52, 46, 103, 101, 95, 117]), .lit (.string []), .lit (.string []), .lit (.string []), .lit (.string []), .lit (.string []), .lit (.string []), .lit (.string []), .lit (.string []), .lit (.string []), .lit (.string []), .lit (.string []), .lit (.string []), .lit (.string [105, 51, 50, 46, 99, 108, 122]), .lit (.string [105, 51, 50, 46, 99, 116, 122]), .lit (.string [105, 51, 50, 46, 112, 111, 112, 99, 110, 116]), .lit (.string [105, 51, 50, 46, 97, 100, 100]), .lit (.string [105, 51, 50, 46, 115, 117, 98]), .lit (.string [105, 51, 50, 46, 109, 117, 108]), .lit (.string [105, 51, 50, 46, 100, 105, 118, 95, 115]), .lit (.string [105, 51, 50, 46, 100, 105, 118, 95, 117]), .lit (.string [105, 51, 50, 46, 114, 101, 109, 95, 115]), .lit (.string [105, 51, 50, 46, 114, 101, 109, 95, 117]), .lit (.string [105, 51, 50, 46, 97, 110, 100]), .lit (.string [105, 51, 50, 46, 111, 114]), .lit (.string [105, 51, 50, 46, 120, 111, 114]), .lit (.string [105, 51, 50, 46, 115, 104, 108]), .lit (.string [105, 51, 50, 46, 115, 104, 114, 95, 115]), .lit (.string [105, 51, 50, 46, 115, 104, 114, 95, 117]), .lit (.string [105, 51, 50, 46, 114, 111, 116, 108]), .lit (.string [105, 51, 50, 46, 114, 111, 116, 114]), .lit (.string [105, 54, 52, 46, 99, 108, 122]), .lit (.string [105, 54, 52, 46, 99, 116, 122]), .lit (.string [105, 54, 52, 46, 112, 111, 112, 99, 110, 116]), .lit (.string [105, 54, 52, 46, 97, 100, 100]), .lit (.string [105, 54, 52, 46, 115, 117, 98]), .lit (.string [105, 54, 52, 46, 109, 117, 108]), .lit (.string [105, 54, 52, 46, 100, 105, 118, 95, 115]), .lit (.string [105, 54, 52, 46, 100, 105, 118, 95, 117]), .lit (.string [105, 54, 52, 46, 114, 101, 109, 95, 115]), .lit (.string [105, 54, 52, 46, 114, 101, 109, 95, 117]), .lit (.string [105, 54, 52, 46, 97, 110, 100]), .lit (.string [105, 54, 52, 46, 111, 114]), .lit (.string [105, 54, 52, 46, 120, 111, 114]), .lit (.string [105, 54, 52, 46, 115, 104, 108]), .lit (.string [105, 54, 52, 46, 115, 104, 114, 95, 115]), .lit (.string [105, 54, 52, 46, 115, 104, 114, 95, 117]), .lit (.string [105, 54, 52, 46, 114, 111, 116, 108]), .lit (.string [105, 54, 52, 46, 114, 111, 116, 114]), .lit (.string []), .lit (.string []), .lit (.string []), .lit (.string []), .lit (.string []), .lit (.string []), .lit (.string []), .lit (.string []), .lit (.string []), .lit (.string []), .lit (.string []), .lit (.string []), .lit (.string []), .lit (.string []), .lit (.string []), .lit (.string []), .lit (.string []), .lit (.string []), .lit (.string []), .lit (.string []), .lit (.string []), .lit (.string []), .lit (.string []), .lit (.string []), .lit (.string []), .lit (.string []), .lit (.string []), .lit (.string []), .lit (.string [105, 51, 50, 46, 119, 114, 97, 112, 95, 105, 54, 52]), .lit (.string []), .lit (.string []), .lit (.string []), .lit (.string []), .lit (.string [105, 54, 52, 46, 101, 120, 116, 101, 110, 100, 95, 105, 51, 50, 95, 115]), .lit (.string [105, 54, 52, 46, 101, 120, 116, 101, 110, 100, 95, 105, 51, 50, 95, 117])]
/-- One of Go's own tables, pinned by name: the form's constant. -/
def laid_unicode_utf8_first : DataW Unit := Go.Pinned.utf8First

/-- 'grommetlaw08.BinEncodes': WHATEVER THE INPUT: true; the input reads as it did. -/
def binEncodesSpec : ChangeSpec := { name := "binEncodes", fn := fun _ => fun
  | [d] => { results := [.lit (.bool true)], args := [d] }
  | _ => none }
def binEncodesRow : OpenClaim := { program := "yteoijlfipmaoeaagreatdoor", sum := "e8f52e56c477331dae083d822c66d27442abe447a3c8d10c224d45dc47b844fa", func := "grommet/grommetlaw08.BinEncodes", spec := "binEncodes", inPlace := ["internal/bytealg.IndexByteString", "internal/bytealg.IndexString", "internal/reflectlite.ValueOf", "(internal/reflectlite.Value).Type", "(internal/reflectlite.Value).IsNil", "internal/reflectlite.TypeOf", "(internal/reflectlite.Value).Elem", "(internal/reflectlite.Value).Set"], unfollowed := true, recurses := true, named := ["grommet/op.names", "grommet/op.numbers", "internal/bytealg.MaxLen", "unicode/utf8.first", "unicode/utf8.acceptRanges", "errors.errorType"], loops := true, apart := false, laid := [("unicode/utf8.acceptRanges", laid_unicode_utf8_acceptRanges), ("errors.errorType", laid_errors_errorType), ("grommet/op.names", laid_grommet_op_names), ("grommet/op.numbers", laid_grommet_op_numbers), ("unicode/utf8.first", laid_unicode_utf8_first)] }
def BinEncodesSaid : Prop := binEncodesRow.holds Tryz.pinned (OpenSpec.ofChange binEncodesSpec)

/-- ITS FALSE NEIGHBOUR: 'it returns false'. Refute it at one input. -/
def binEncodesWrong : ChangeSpec := { name := "binEncodes", fn := fun _ => fun
  | [d] => { results := [.lit (.bool false)], args := [d] }
  | _ => none }
def BinEncodesWrongFalsely : Prop := binEncodesRow.holds Tryz.pinned (OpenSpec.ofChange binEncodesWrong)

/-- 'grommetlaw08.BinBack': WHATEVER THE INPUT: true; the input reads as it did. -/
def binBackSpec : ChangeSpec := { name := "binBack", fn := fun _ => fun
  | [d1, d2] => { results := [.lit (.bool true)], args := [d1, d2] }
  | _ => none }
def binBackRow : OpenClaim := { program := "yteoijlfipmaoeaagreatdoor", sum := "e8f52e56c477331dae083d822c66d27442abe447a3c8d10c224d45dc47b844fa", func := "grommet/grommetlaw08.BinBack", spec := "binBack", inPlace := ["internal/bytealg.IndexByteString", "internal/bytealg.IndexString", "internal/reflectlite.ValueOf", "(internal/reflectlite.Value).Type", "(internal/reflectlite.Value).IsNil", "internal/reflectlite.TypeOf", "(internal/reflectlite.Value).Elem", "(internal/reflectlite.Value).Set"], unfollowed := true, recurses := true, named := ["grommet/op.names", "grommet/op.numbers", "internal/bytealg.MaxLen", "unicode/utf8.first", "unicode/utf8.acceptRanges", "errors.errorType"], loops := true, apart := false, laid := [("unicode/utf8.acceptRanges", laid_unicode_utf8_acceptRanges), ("errors.errorType", laid_errors_errorType), ("grommet/op.names", laid_grommet_op_names), ("grommet/op.numbers", laid_grommet_op_numbers), ("unicode/utf8.first", laid_unicode_utf8_first)] }
def BinBackSaid : Prop := binBackRow.holds Tryz.pinned (OpenSpec.ofChange binBackSpec)

/-- ITS FALSE NEIGHBOUR: 'it returns false'. Refute it at one input. -/
def binBackWrong : ChangeSpec := { name := "binBack", fn := fun _ => fun
  | [d1, d2] => { results := [.lit (.bool false)], args := [d1, d2] }
  | _ => none }
def BinBackWrongFalsely : Prop := binBackRow.holds Tryz.pinned (OpenSpec.ofChange binBackWrong)

/-- 'grommetlaw08.BinCustom': WHATEVER THE INPUT: true; the input reads as it did. -/
def binCustomSpec : ChangeSpec := { name := "binCustom", fn := fun _ => fun
  | [d1, d2] => { results := [.lit (.bool true)], args := [d1, d2] }
  | _ => none }
def binCustomRow : OpenClaim := { program := "yteoijlfipmaoeaagreatdoor", sum := "e8f52e56c477331dae083d822c66d27442abe447a3c8d10c224d45dc47b844fa", func := "grommet/grommetlaw08.BinCustom", spec := "binCustom", inPlace := ["internal/bytealg.IndexByteString", "internal/bytealg.IndexString", "internal/reflectlite.ValueOf", "(internal/reflectlite.Value).Type", "(internal/reflectlite.Value).IsNil", "internal/reflectlite.TypeOf", "(internal/reflectlite.Value).Elem", "(internal/reflectlite.Value).Set"], unfollowed := true, recurses := true, named := ["grommet/op.names", "grommet/op.numbers", "internal/bytealg.MaxLen", "unicode/utf8.first", "unicode/utf8.acceptRanges", "errors.errorType"], loops := true, apart := false, laid := [("unicode/utf8.acceptRanges", laid_unicode_utf8_acceptRanges), ("errors.errorType", laid_errors_errorType), ("grommet/op.names", laid_grommet_op_names), ("grommet/op.numbers", laid_grommet_op_numbers), ("unicode/utf8.first", laid_unicode_utf8_first)] }
def BinCustomSaid : Prop := binCustomRow.holds Tryz.pinned (OpenSpec.ofChange binCustomSpec)

/-- ITS FALSE NEIGHBOUR: 'it returns false'. Refute it at one input. -/
def binCustomWrong : ChangeSpec := { name := "binCustom", fn := fun _ => fun
  | [d1, d2] => { results := [.lit (.bool false)], args := [d1, d2] }
  | _ => none }
def BinCustomWrongFalsely : Prop := binCustomRow.holds Tryz.pinned (OpenSpec.ofChange binCustomWrong)

/-- 'grommetlaw08.BinStays': WHATEVER THE INPUT: true; the input reads as it did. -/
def binStaysSpec : ChangeSpec := { name := "binStays", fn := fun _ => fun
  | [d1, d2] => { results := [.lit (.bool true)], args := [d1, d2] }
  | _ => none }
def binStaysRow : OpenClaim := { program := "yteoijlfipmaoeaagreatdoor", sum := "e8f52e56c477331dae083d822c66d27442abe447a3c8d10c224d45dc47b844fa", func := "grommet/grommetlaw08.BinStays", spec := "binStays", inPlace := ["internal/bytealg.IndexByteString", "internal/bytealg.IndexString", "internal/reflectlite.ValueOf", "(internal/reflectlite.Value).Type", "(internal/reflectlite.Value).IsNil", "internal/reflectlite.TypeOf", "(internal/reflectlite.Value).Elem", "(internal/reflectlite.Value).Set"], unfollowed := true, recurses := true, named := ["grommet/op.names", "grommet/op.numbers", "internal/bytealg.MaxLen", "unicode/utf8.first", "unicode/utf8.acceptRanges", "errors.errorType"], loops := true, apart := false, laid := [("unicode/utf8.acceptRanges", laid_unicode_utf8_acceptRanges), ("errors.errorType", laid_errors_errorType), ("grommet/op.names", laid_grommet_op_names), ("grommet/op.numbers", laid_grommet_op_numbers), ("unicode/utf8.first", laid_unicode_utf8_first)] }
def BinStaysSaid : Prop := binStaysRow.holds Tryz.pinned (OpenSpec.ofChange binStaysSpec)

/-- ITS FALSE NEIGHBOUR: 'it returns false'. Refute it at one input. -/
def binStaysWrong : ChangeSpec := { name := "binStays", fn := fun _ => fun
  | [d1, d2] => { results := [.lit (.bool false)], args := [d1, d2] }
  | _ => none }
def BinStaysWrongFalsely : Prop := binStaysRow.holds Tryz.pinned (OpenSpec.ofChange binStaysWrong)

/- THE SECOND FORM. 'bulk': how many values and letters a reading holds, each counted each time it is reached (what is shared counts as often as it is met; a slice's spare places count too). A statement '..UptoSaid' is the law's where the arguments, and the package variables that the reading takes, are together of bulk at most 1048576: NARROWER than '..Said'. Prove '..Said' where nothing that the law and all that it calls make is longer than what came in: it says more and counts as full. Else prove '..UptoSaid'. A law counts once. -/
mutual
def uptoBulk {H : Type} : DataW H → Nat
  | .lit (.string bytes) => bytes.length + 1
  | .lit _ => 1
  | .nil => 1
  | .ptr d => uptoBulk d + 1
  | .slice elems spare => uptoBulkAll elems + uptoBulkAll spare + 1
  | .agg parts => uptoBulkAll parts + 1
  | .iface _ d => uptoBulk d + 1
  | .map entries => uptoBulkEntries entries + 1
  | .held _ => 1
def uptoBulkAll {H : Type} : List (DataW H) → Nat
  | [] => 0
  | d :: r => uptoBulk d + uptoBulkAll r
def uptoBulkEntries {H : Type} : List (Lit × DataW H) → Nat
  | [] => 0
  | x :: r => uptoBulkEntry x + uptoBulkEntries r
def uptoBulkEntry {H : Type} : Lit × DataW H → Nat
  | (.string bytes, d) => bytes.length + uptoBulk d + 1
  | (_, d) => uptoBulk d + 1
 end
def uptoSmall : (H : Type) → List (DataW H) → Bool := fun _ ds => decide (uptoBulkAll ds ≤ 1048576)
def OpenSpec.upto (s : _root_.Go.ChangeSpec) : _root_.Go.OpenSpec := { _root_.Go.OpenSpec.ofChange s with cond := some uptoSmall }

/-- 'grommetlaw08.BinEncodes', WHERE WHAT IT READS IS OF BULK AT MOST 1048576: true; the input reads as it did. -/
def binEncodesUptoRow : OpenClaim := { program := "yteoijlfipmaoeaagreatdoor", sum := "e8f52e56c477331dae083d822c66d27442abe447a3c8d10c224d45dc47b844fa", func := "grommet/grommetlaw08.BinEncodes", spec := "binEncodes", inPlace := ["internal/bytealg.IndexByteString", "internal/bytealg.IndexString", "internal/reflectlite.ValueOf", "(internal/reflectlite.Value).Type", "(internal/reflectlite.Value).IsNil", "internal/reflectlite.TypeOf", "(internal/reflectlite.Value).Elem", "(internal/reflectlite.Value).Set"], unfollowed := true, recurses := true, named := ["grommet/op.names", "grommet/op.numbers", "internal/bytealg.MaxLen", "unicode/utf8.first", "unicode/utf8.acceptRanges", "errors.errorType"], loops := true, apart := false, laid := [("unicode/utf8.acceptRanges", laid_unicode_utf8_acceptRanges), ("errors.errorType", laid_errors_errorType), ("grommet/op.names", laid_grommet_op_names), ("grommet/op.numbers", laid_grommet_op_numbers), ("unicode/utf8.first", laid_unicode_utf8_first)], narrowed := true }
def BinEncodesUptoSaid : Prop := binEncodesUptoRow.holds Tryz.pinned (OpenSpec.upto binEncodesSpec)

/-- 'grommetlaw08.BinBack', WHERE WHAT IT READS IS OF BULK AT MOST 1048576: true; the input reads as it did. -/
def binBackUptoRow : OpenClaim := { program := "yteoijlfipmaoeaagreatdoor", sum := "e8f52e56c477331dae083d822c66d27442abe447a3c8d10c224d45dc47b844fa", func := "grommet/grommetlaw08.BinBack", spec := "binBack", inPlace := ["internal/bytealg.IndexByteString", "internal/bytealg.IndexString", "internal/reflectlite.ValueOf", "(internal/reflectlite.Value).Type", "(internal/reflectlite.Value).IsNil", "internal/reflectlite.TypeOf", "(internal/reflectlite.Value).Elem", "(internal/reflectlite.Value).Set"], unfollowed := true, recurses := true, named := ["grommet/op.names", "grommet/op.numbers", "internal/bytealg.MaxLen", "unicode/utf8.first", "unicode/utf8.acceptRanges", "errors.errorType"], loops := true, apart := false, laid := [("unicode/utf8.acceptRanges", laid_unicode_utf8_acceptRanges), ("errors.errorType", laid_errors_errorType), ("grommet/op.names", laid_grommet_op_names), ("grommet/op.numbers", laid_grommet_op_numbers), ("unicode/utf8.first", laid_unicode_utf8_first)], narrowed := true }
def BinBackUptoSaid : Prop := binBackUptoRow.holds Tryz.pinned (OpenSpec.upto binBackSpec)

/-- 'grommetlaw08.BinCustom', WHERE WHAT IT READS IS OF BULK AT MOST 1048576: true; the input reads as it did. -/
def binCustomUptoRow : OpenClaim := { program := "yteoijlfipmaoeaagreatdoor", sum := "e8f52e56c477331dae083d822c66d27442abe447a3c8d10c224d45dc47b844fa", func := "grommet/grommetlaw08.BinCustom", spec := "binCustom", inPlace := ["internal/bytealg.IndexByteString", "internal/bytealg.IndexString", "internal/reflectlite.ValueOf", "(internal/reflectlite.Value).Type", "(internal/reflectlite.Value).IsNil", "internal/reflectlite.TypeOf", "(internal/reflectlite.Value).Elem", "(internal/reflectlite.Value).Set"], unfollowed := true, recurses := true, named := ["grommet/op.names", "grommet/op.numbers", "internal/bytealg.MaxLen", "unicode/utf8.first", "unicode/utf8.acceptRanges", "errors.errorType"], loops := true, apart := false, laid := [("unicode/utf8.acceptRanges", laid_unicode_utf8_acceptRanges), ("errors.errorType", laid_errors_errorType), ("grommet/op.names", laid_grommet_op_names), ("grommet/op.numbers", laid_grommet_op_numbers), ("unicode/utf8.first", laid_unicode_utf8_first)], narrowed := true }
def BinCustomUptoSaid : Prop := binCustomUptoRow.holds Tryz.pinned (OpenSpec.upto binCustomSpec)

/-- 'grommetlaw08.BinStays', WHERE WHAT IT READS IS OF BULK AT MOST 1048576: true; the input reads as it did. -/
def binStaysUptoRow : OpenClaim := { program := "yteoijlfipmaoeaagreatdoor", sum := "e8f52e56c477331dae083d822c66d27442abe447a3c8d10c224d45dc47b844fa", func := "grommet/grommetlaw08.BinStays", spec := "binStays", inPlace := ["internal/bytealg.IndexByteString", "internal/bytealg.IndexString", "internal/reflectlite.ValueOf", "(internal/reflectlite.Value).Type", "(internal/reflectlite.Value).IsNil", "internal/reflectlite.TypeOf", "(internal/reflectlite.Value).Elem", "(internal/reflectlite.Value).Set"], unfollowed := true, recurses := true, named := ["grommet/op.names", "grommet/op.numbers", "internal/bytealg.MaxLen", "unicode/utf8.first", "unicode/utf8.acceptRanges", "errors.errorType"], loops := true, apart := false, laid := [("unicode/utf8.acceptRanges", laid_unicode_utf8_acceptRanges), ("errors.errorType", laid_errors_errorType), ("grommet/op.names", laid_grommet_op_names), ("grommet/op.numbers", laid_grommet_op_numbers), ("unicode/utf8.first", laid_unicode_utf8_first)], narrowed := true }
def BinStaysUptoSaid : Prop := binStaysUptoRow.holds Tryz.pinned (OpenSpec.upto binStaysSpec)

end Rows
end Go.Proofs.YteoijlfipmaoeaaGreatDoor
