/-
  DERIVED. GIVEN WITH THE SEED: THE CARDS: each row of YteoijlfipmaoeaaGreatDoorRows.lean that lists a variable, with what it lists TIED to the program's text (the seventh form; the later family's looks); each row that meets fmt, with fmt's text TOLD by the authors' own Lean function (tested against real Go, not proved from fmt's source: count such statements apart). THE CARD IS WHAT COUNTS. Prove the row's statement (the work); the ties are given (YteoijlfipmaoeaaGreatDoorTie.lean); close each card by the builder's one call (the guide's Derived/Test/ToyasCard.lean, 'card_holds'). Laid BY PROGRAM, IN A SANDBOX (cutbox-door.mjs). By AI agents, Wed Nov 11 2026. No macro, syntax, notation, axiom, sorry.
-/
import Derived.Test.YteoijlfipmaoeaaGreatDoorRows
import GoSem.ClaimSeven
namespace Go.Proofs.YteoijlfipmaoeaaGreatDoor
namespace Rows

/-- THE TIED CARD OF 'grommetlaw08.BinEncodes'. -/
def binEncodesCard : Claim7 := { stood := { row := binEncodesRow, standIns := [], harness := (true, "061eeb5adb2b48c7837ae118f2d636dfdfd1978247fb44c25648a97d4b7a1ead"), looks := true }, kinds := [], alts := [], laidByText := true, laidKinds := [.data, .handle, .data, .data, .pinned], laidTests := true, laidLooks := .later }
def BinEncodesCardSaid : Prop := Claim7.holds Tryz.pinned (.plain (OpenSpec.ofChange binEncodesSpec)) binEncodesCard

/-- THE TIED CARD OF 'grommetlaw08.BinBack'. -/
def binBackCard : Claim7 := { stood := { row := binBackRow, standIns := [], harness := (true, "061eeb5adb2b48c7837ae118f2d636dfdfd1978247fb44c25648a97d4b7a1ead"), looks := true }, kinds := [], alts := [], laidByText := true, laidKinds := [.data, .handle, .data, .data, .pinned], laidTests := true, laidLooks := .later }
def BinBackCardSaid : Prop := Claim7.holds Tryz.pinned (.plain (OpenSpec.ofChange binBackSpec)) binBackCard

/-- THE TIED CARD OF 'grommetlaw08.BinCustom'. -/
def binCustomCard : Claim7 := { stood := { row := binCustomRow, standIns := [], harness := (true, "061eeb5adb2b48c7837ae118f2d636dfdfd1978247fb44c25648a97d4b7a1ead"), looks := true }, kinds := [], alts := [], laidByText := true, laidKinds := [.data, .handle, .data, .data, .pinned], laidTests := true, laidLooks := .later }
def BinCustomCardSaid : Prop := Claim7.holds Tryz.pinned (.plain (OpenSpec.ofChange binCustomSpec)) binCustomCard

/-- THE TIED CARD OF 'grommetlaw08.BinStays'. -/
def binStaysCard : Claim7 := { stood := { row := binStaysRow, standIns := [], harness := (true, "061eeb5adb2b48c7837ae118f2d636dfdfd1978247fb44c25648a97d4b7a1ead"), looks := true }, kinds := [], alts := [], laidByText := true, laidKinds := [.data, .handle, .data, .data, .pinned], laidTests := true, laidLooks := .later }
def BinStaysCardSaid : Prop := Claim7.holds Tryz.pinned (.plain (OpenSpec.ofChange binStaysSpec)) binStaysCard

/-- THE SECOND FORM's CARD OF 'grommetlaw08.BinEncodes'. -/
def binEncodesUptoCard : Claim7 := { stood := { row := binEncodesUptoRow, standIns := [], harness := (true, "061eeb5adb2b48c7837ae118f2d636dfdfd1978247fb44c25648a97d4b7a1ead"), looks := true }, kinds := [], alts := [], laidByText := true, laidKinds := [.data, .handle, .data, .data, .pinned], laidTests := true, laidLooks := .later }
def BinEncodesUptoCardSaid : Prop := Claim7.holds Tryz.pinned (.plain (OpenSpec.upto binEncodesSpec)) binEncodesUptoCard

/-- THE SECOND FORM's CARD OF 'grommetlaw08.BinBack'. -/
def binBackUptoCard : Claim7 := { stood := { row := binBackUptoRow, standIns := [], harness := (true, "061eeb5adb2b48c7837ae118f2d636dfdfd1978247fb44c25648a97d4b7a1ead"), looks := true }, kinds := [], alts := [], laidByText := true, laidKinds := [.data, .handle, .data, .data, .pinned], laidTests := true, laidLooks := .later }
def BinBackUptoCardSaid : Prop := Claim7.holds Tryz.pinned (.plain (OpenSpec.upto binBackSpec)) binBackUptoCard

/-- THE SECOND FORM's CARD OF 'grommetlaw08.BinCustom'. -/
def binCustomUptoCard : Claim7 := { stood := { row := binCustomUptoRow, standIns := [], harness := (true, "061eeb5adb2b48c7837ae118f2d636dfdfd1978247fb44c25648a97d4b7a1ead"), looks := true }, kinds := [], alts := [], laidByText := true, laidKinds := [.data, .handle, .data, .data, .pinned], laidTests := true, laidLooks := .later }
def BinCustomUptoCardSaid : Prop := Claim7.holds Tryz.pinned (.plain (OpenSpec.upto binCustomSpec)) binCustomUptoCard

/-- THE SECOND FORM's CARD OF 'grommetlaw08.BinStays'. -/
def binStaysUptoCard : Claim7 := { stood := { row := binStaysUptoRow, standIns := [], harness := (true, "061eeb5adb2b48c7837ae118f2d636dfdfd1978247fb44c25648a97d4b7a1ead"), looks := true }, kinds := [], alts := [], laidByText := true, laidKinds := [.data, .handle, .data, .data, .pinned], laidTests := true, laidLooks := .later }
def BinStaysUptoCardSaid : Prop := Claim7.holds Tryz.pinned (.plain (OpenSpec.upto binStaysSpec)) binStaysUptoCard
end Rows
end Go.Proofs.YteoijlfipmaoeaaGreatDoor
