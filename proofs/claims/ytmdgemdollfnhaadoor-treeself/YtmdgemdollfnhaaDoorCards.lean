/-
  DERIVED. GIVEN WITH THE SEED: THE CARDS: each row of YtmdgemdollfnhaaDoorRows.lean that lists a variable, with what it lists TIED to the program's text (the seventh form; the later family's looks); each row that meets fmt, with fmt's text TOLD by the authors' own Lean function (tested against real Go, not proved from fmt's source: count such statements apart). THE CARD IS WHAT COUNTS. Prove the row's statement (the work); the ties are given (YtmdgemdollfnhaaDoorTie.lean); close each card by the builder's one call (the guide's Derived/Test/ToyasCard.lean, 'card_holds'). Laid BY PROGRAM, IN A SANDBOX (cutbox-door.mjs). By AI agents, Wed Nov 11 2026. No macro, syntax, notation, axiom, sorry.
-/
import Derived.Test.YtmdgemdollfnhaaDoorRows
import GoSem.ClaimSeven
namespace Go.Proofs.YtmdgemdollfnhaaDoor
namespace Rows

/-- THE TIED CARD OF 'grommetlaw05.TreeMay'. -/
def treeMayCard : Claim7 := { stood := { row := treeMayRow, standIns := [], harness := (true, "51b11509d9d29fbf49f93b5d7a286bbe5ebba798a939077783e5eee164310de5"), looks := true }, kinds := [], alts := [], laidByText := true, laidKinds := [.data, .data], laidTests := true, laidLooks := .later }
def TreeMayCardSaid : Prop := Claim7.holds Tryd.pinned (.plain (OpenSpec.ofChange treeMaySpec)) treeMayCard

/-- THE TIED CARD OF 'grommetlaw05.TreeSpaces'. -/
def treeSpacesCard : Claim7 := { stood := { row := treeSpacesRow, standIns := [], harness := (true, "51b11509d9d29fbf49f93b5d7a286bbe5ebba798a939077783e5eee164310de5"), looks := true }, kinds := [], alts := [], laidByText := true, laidKinds := [.data, .data], laidTests := true, laidLooks := .later }
def TreeSpacesCardSaid : Prop := Claim7.holds Tryd.pinned (.plain (OpenSpec.ofChange treeSpacesSpec)) treeSpacesCard

/-- THE TIED CARD OF 'grommetlaw05.TreeParts'. -/
def treePartsCard : Claim7 := { stood := { row := treePartsRow, standIns := [], harness := (true, "51b11509d9d29fbf49f93b5d7a286bbe5ebba798a939077783e5eee164310de5"), looks := true }, kinds := [], alts := [], laidByText := true, laidKinds := [.data, .data], laidTests := true, laidLooks := .later }
def TreePartsCardSaid : Prop := Claim7.holds Tryd.pinned (.plain (OpenSpec.ofChange treePartsSpec)) treePartsCard

/-- THE TIED CARD OF 'grommetlaw05.TreeSelf'. -/
def treeSelfCard : Claim7 := { stood := { row := treeSelfRow, standIns := [], harness := (true, "51b11509d9d29fbf49f93b5d7a286bbe5ebba798a939077783e5eee164310de5"), looks := true }, kinds := [], alts := [], laidByText := true, laidKinds := [.data, .data], laidTests := true, laidLooks := .later }
def TreeSelfCardSaid : Prop := Claim7.holds Tryd.pinned (.plain (OpenSpec.ofChange treeSelfSpec)) treeSelfCard

/-- THE SECOND FORM's CARD OF 'grommetlaw05.TreeMay'. -/
def treeMayUptoCard : Claim7 := { stood := { row := treeMayUptoRow, standIns := [], harness := (true, "51b11509d9d29fbf49f93b5d7a286bbe5ebba798a939077783e5eee164310de5"), looks := true }, kinds := [], alts := [], laidByText := true, laidKinds := [.data, .data], laidTests := true, laidLooks := .later }
def TreeMayUptoCardSaid : Prop := Claim7.holds Tryd.pinned (.plain (OpenSpec.upto treeMaySpec)) treeMayUptoCard

/-- THE SECOND FORM's CARD OF 'grommetlaw05.TreeSpaces'. -/
def treeSpacesUptoCard : Claim7 := { stood := { row := treeSpacesUptoRow, standIns := [], harness := (true, "51b11509d9d29fbf49f93b5d7a286bbe5ebba798a939077783e5eee164310de5"), looks := true }, kinds := [], alts := [], laidByText := true, laidKinds := [.data, .data], laidTests := true, laidLooks := .later }
def TreeSpacesUptoCardSaid : Prop := Claim7.holds Tryd.pinned (.plain (OpenSpec.upto treeSpacesSpec)) treeSpacesUptoCard

/-- THE SECOND FORM's CARD OF 'grommetlaw05.TreeParts'. -/
def treePartsUptoCard : Claim7 := { stood := { row := treePartsUptoRow, standIns := [], harness := (true, "51b11509d9d29fbf49f93b5d7a286bbe5ebba798a939077783e5eee164310de5"), looks := true }, kinds := [], alts := [], laidByText := true, laidKinds := [.data, .data], laidTests := true, laidLooks := .later }
def TreePartsUptoCardSaid : Prop := Claim7.holds Tryd.pinned (.plain (OpenSpec.upto treePartsSpec)) treePartsUptoCard

/-- THE SECOND FORM's CARD OF 'grommetlaw05.TreeSelf'. -/
def treeSelfUptoCard : Claim7 := { stood := { row := treeSelfUptoRow, standIns := [], harness := (true, "51b11509d9d29fbf49f93b5d7a286bbe5ebba798a939077783e5eee164310de5"), looks := true }, kinds := [], alts := [], laidByText := true, laidKinds := [.data, .data], laidTests := true, laidLooks := .later }
def TreeSelfUptoCardSaid : Prop := Claim7.holds Tryd.pinned (.plain (OpenSpec.upto treeSelfSpec)) treeSelfUptoCard
end Rows
end Go.Proofs.YtmdgemdollfnhaaDoor
