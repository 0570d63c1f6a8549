/-
  DERIVED. GIVEN WITH THE SEED: THE CARDS: each row of YtbdmpjnlgdahmaaGreatDoorRows.lean that lists a variable, with what it lists TIED to the program's text (the seventh form; the later family's looks); each row that meets fmt, with fmt's text TOLD by the authors' own Lean function (tested against real Go, not proved from fmt's source: count such statements apart). THE CARD IS WHAT COUNTS. Prove the row's statement (the work); the ties are given (YtbdmpjnlgdahmaaGreatDoorTie.lean); close each card by the builder's one call (the guide's Derived/Test/ToyasCard.lean, 'card_holds'). Laid BY PROGRAM, IN A SANDBOX (cutbox-door.mjs). By AI agents, Wed Nov 11 2026. No macro, syntax, notation, axiom, sorry.
-/
import Derived.Test.YtbdmpjnlgdahmaaGreatDoorRows
import GoSem.ClaimSeven
namespace Go.Proofs.YtbdmpjnlgdahmaaGreatDoor
namespace Rows

/-- THE TIED CARD OF 'riddlelaw11.ParseTrees'. -/
def parseTreesCard : Claim7 := { stood := { row := parseTreesRow, standIns := [], harness := (true, "3e724cfae68305707c6e72cfd9344befa0cc8577bf724d6834f15ee975ce587f"), looks := true }, kinds := [], alts := [], laidByText := true, laidKinds := [.data, .data, .data, .sentinel, .sentinel, .data], laidTests := true, laidLooks := .later }
def ParseTreesCardSaid : Prop := Claim7.holds Tryz.pinned (.plain (OpenSpec.ofChange parseTreesSpec)) parseTreesCard

/-- THE TIED CARD OF 'riddlelaw11.ParseTotal'. -/
def parseTotalCard : Claim7 := { stood := { row := parseTotalRow, standIns := [], harness := (true, "3e724cfae68305707c6e72cfd9344befa0cc8577bf724d6834f15ee975ce587f"), looks := true }, kinds := [], alts := [], laidByText := true, laidKinds := [.data, .data, .data, .sentinel, .sentinel, .data], laidTests := true, laidLooks := .later }
def ParseTotalCardSaid : Prop := Claim7.holds Tryz.pinned (.plain (OpenSpec.ofChange parseTotalSpec)) parseTotalCard

/-- THE TIED CARD OF 'riddlelaw11.ParseBrackets'. -/
def parseBracketsCard : Claim7 := { stood := { row := parseBracketsRow, standIns := [], harness := (true, "3e724cfae68305707c6e72cfd9344befa0cc8577bf724d6834f15ee975ce587f"), looks := true }, kinds := [], alts := [], laidByText := true, laidKinds := [.data, .data, .data, .sentinel, .sentinel, .data], laidTests := true, laidLooks := .later }
def ParseBracketsCardSaid : Prop := Claim7.holds Tryz.pinned (.plain (OpenSpec.ofChange parseBracketsSpec)) parseBracketsCard

/-- THE TIED CARD OF 'riddlelaw11.ParseWords'. -/
def parseWordsCard : Claim7 := { stood := { row := parseWordsRow, standIns := [], harness := (true, "3e724cfae68305707c6e72cfd9344befa0cc8577bf724d6834f15ee975ce587f"), looks := true }, kinds := [], alts := [], laidByText := true, laidKinds := [.data, .data, .data, .sentinel, .sentinel, .data], laidTests := true, laidLooks := .later }
def ParseWordsCardSaid : Prop := Claim7.holds Tryz.pinned (.plain (OpenSpec.ofChange parseWordsSpec)) parseWordsCard

/-- THE TIED CARD OF 'riddlelaw11.ParsePairs'. -/
def parsePairsCard : Claim7 := { stood := { row := parsePairsRow, standIns := [], harness := (true, "3e724cfae68305707c6e72cfd9344befa0cc8577bf724d6834f15ee975ce587f"), looks := true }, kinds := [], alts := [], laidByText := true, laidKinds := [.data, .data, .data, .sentinel, .sentinel, .data], laidTests := true, laidLooks := .later }
def ParsePairsCardSaid : Prop := Claim7.holds Tryz.pinned (.plain (OpenSpec.ofChange parsePairsSpec)) parsePairsCard

/-- THE TIED CARD OF 'riddlelaw11.ParseBinds'. -/
def parseBindsCard : Claim7 := { stood := { row := parseBindsRow, standIns := [], harness := (true, "3e724cfae68305707c6e72cfd9344befa0cc8577bf724d6834f15ee975ce587f"), looks := true }, kinds := [], alts := [], laidByText := true, laidKinds := [.data, .data, .data, .sentinel, .sentinel, .data], laidTests := true, laidLooks := .later }
def ParseBindsCardSaid : Prop := Claim7.holds Tryz.pinned (.plain (OpenSpec.ofChange parseBindsSpec)) parseBindsCard

/-- THE SECOND FORM's CARD OF 'riddlelaw11.ParseTrees'. -/
def parseTreesUptoCard : Claim7 := { stood := { row := parseTreesUptoRow, standIns := [], harness := (true, "3e724cfae68305707c6e72cfd9344befa0cc8577bf724d6834f15ee975ce587f"), looks := true }, kinds := [], alts := [], laidByText := true, laidKinds := [.data, .data, .data, .sentinel, .sentinel, .data], laidTests := true, laidLooks := .later }
def ParseTreesUptoCardSaid : Prop := Claim7.holds Tryz.pinned (.plain (OpenSpec.upto parseTreesSpec)) parseTreesUptoCard

/-- THE SECOND FORM's CARD OF 'riddlelaw11.ParseTotal'. -/
def parseTotalUptoCard : Claim7 := { stood := { row := parseTotalUptoRow, standIns := [], harness := (true, "3e724cfae68305707c6e72cfd9344befa0cc8577bf724d6834f15ee975ce587f"), looks := true }, kinds := [], alts := [], laidByText := true, laidKinds := [.data, .data, .data, .sentinel, .sentinel, .data], laidTests := true, laidLooks := .later }
def ParseTotalUptoCardSaid : Prop := Claim7.holds Tryz.pinned (.plain (OpenSpec.upto parseTotalSpec)) parseTotalUptoCard

/-- THE SECOND FORM's CARD OF 'riddlelaw11.ParseBrackets'. -/
def parseBracketsUptoCard : Claim7 := { stood := { row := parseBracketsUptoRow, standIns := [], harness := (true, "3e724cfae68305707c6e72cfd9344befa0cc8577bf724d6834f15ee975ce587f"), looks := true }, kinds := [], alts := [], laidByText := true, laidKinds := [.data, .data, .data, .sentinel, .sentinel, .data], laidTests := true, laidLooks := .later }
def ParseBracketsUptoCardSaid : Prop := Claim7.holds Tryz.pinned (.plain (OpenSpec.upto parseBracketsSpec)) parseBracketsUptoCard

/-- THE SECOND FORM's CARD OF 'riddlelaw11.ParseWords'. -/
def parseWordsUptoCard : Claim7 := { stood := { row := parseWordsUptoRow, standIns := [], harness := (true, "3e724cfae68305707c6e72cfd9344befa0cc8577bf724d6834f15ee975ce587f"), looks := true }, kinds := [], alts := [], laidByText := true, laidKinds := [.data, .data, .data, .sentinel, .sentinel, .data], laidTests := true, laidLooks := .later }
def ParseWordsUptoCardSaid : Prop := Claim7.holds Tryz.pinned (.plain (OpenSpec.upto parseWordsSpec)) parseWordsUptoCard

/-- THE SECOND FORM's CARD OF 'riddlelaw11.ParsePairs'. -/
def parsePairsUptoCard : Claim7 := { stood := { row := parsePairsUptoRow, standIns := [], harness := (true, "3e724cfae68305707c6e72cfd9344befa0cc8577bf724d6834f15ee975ce587f"), looks := true }, kinds := [], alts := [], laidByText := true, laidKinds := [.data, .data, .data, .sentinel, .sentinel, .data], laidTests := true, laidLooks := .later }
def ParsePairsUptoCardSaid : Prop := Claim7.holds Tryz.pinned (.plain (OpenSpec.upto parsePairsSpec)) parsePairsUptoCard

/-- THE SECOND FORM's CARD OF 'riddlelaw11.ParseBinds'. -/
def parseBindsUptoCard : Claim7 := { stood := { row := parseBindsUptoRow, standIns := [], harness := (true, "3e724cfae68305707c6e72cfd9344befa0cc8577bf724d6834f15ee975ce587f"), looks := true }, kinds := [], alts := [], laidByText := true, laidKinds := [.data, .data, .data, .sentinel, .sentinel, .data], laidTests := true, laidLooks := .later }
def ParseBindsUptoCardSaid : Prop := Claim7.holds Tryz.pinned (.plain (OpenSpec.upto parseBindsSpec)) parseBindsUptoCard
end Rows
end Go.Proofs.YtbdmpjnlgdahmaaGreatDoor
