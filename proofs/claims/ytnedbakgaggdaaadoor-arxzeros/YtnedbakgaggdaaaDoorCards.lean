/-
  DERIVED. GIVEN WITH THE SEED: THE CARDS: each row of YtnedbakgaggdaaaDoorRows.lean that lists a variable, with what it lists TIED to the program's text (the seventh form; the later family's looks); each row that meets fmt, with fmt's text TOLD by the authors' own Lean function (tested against real Go, not proved from fmt's source: count such statements apart). THE CARD IS WHAT COUNTS. Prove the row's statement (the work); the ties are given (YtnedbakgaggdaaaDoorTie.lean); close each card by the builder's one call (the guide's Derived/Test/ToyasCard.lean, 'card_holds'). Laid BY PROGRAM, IN A SANDBOX (cutbox-door.mjs). By AI agents, Wed Nov 11 2026. No macro, syntax, notation, axiom, sorry.
-/
import Derived.Test.YtnedbakgaggdaaaDoorRows
import GoSem.ClaimSeven
namespace Go.Proofs.YtnedbakgaggdaaaDoor
namespace Rows

/-- THE TIED CARD OF 'sphragislaw01.ArxQuarters'. -/
def arxQuartersCard : Claim7 := { stood := { row := arxQuartersRow, standIns := [], harness := (true, "0877be3efdbac3f24cc3b456a25c1bd0545f61382f56c44c2414083ac434429e"), looks := false }, kinds := [], alts := [], laidByText := true, laidKinds := [.data], laidTests := true, laidLooks := .later }
def ArxQuartersCardSaid : Prop := Claim7.holds Tryd.pinned (.plain (OpenSpec.ofChange arxQuartersSpec)) arxQuartersCard

/-- THE TIED CARD OF 'sphragislaw01.ArxBlocks'. -/
def arxBlocksCard : Claim7 := { stood := { row := arxBlocksRow, standIns := [], harness := (true, "0877be3efdbac3f24cc3b456a25c1bd0545f61382f56c44c2414083ac434429e"), looks := false }, kinds := [], alts := [], laidByText := true, laidKinds := [.data], laidTests := true, laidLooks := .later }
def ArxBlocksCardSaid : Prop := Claim7.holds Tryd.pinned (.plain (OpenSpec.ofChange arxBlocksSpec)) arxBlocksCard

/-- THE TIED CARD OF 'sphragislaw01.ArxXors'. -/
def arxXorsCard : Claim7 := { stood := { row := arxXorsRow, standIns := [], harness := (true, "0877be3efdbac3f24cc3b456a25c1bd0545f61382f56c44c2414083ac434429e"), looks := false }, kinds := [], alts := [], laidByText := true, laidKinds := [.data], laidTests := true, laidLooks := .later }
def ArxXorsCardSaid : Prop := Claim7.holds Tryd.pinned (.plain (OpenSpec.ofChange arxXorsSpec)) arxXorsCard

/-- THE TIED CARD OF 'sphragislaw01.ArxTwice'. -/
def arxTwiceCard : Claim7 := { stood := { row := arxTwiceRow, standIns := [], harness := (true, "0877be3efdbac3f24cc3b456a25c1bd0545f61382f56c44c2414083ac434429e"), looks := false }, kinds := [], alts := [], laidByText := true, laidKinds := [.data], laidTests := true, laidLooks := .later }
def ArxTwiceCardSaid : Prop := Claim7.holds Tryd.pinned (.plain (OpenSpec.ofChange arxTwiceSpec)) arxTwiceCard

/-- THE TIED CARD OF 'sphragislaw01.ArxBegins'. -/
def arxBeginsCard : Claim7 := { stood := { row := arxBeginsRow, standIns := [], harness := (true, "0877be3efdbac3f24cc3b456a25c1bd0545f61382f56c44c2414083ac434429e"), looks := false }, kinds := [], alts := [], laidByText := true, laidKinds := [.data], laidTests := true, laidLooks := .later }
def ArxBeginsCardSaid : Prop := Claim7.holds Tryd.pinned (.plain (OpenSpec.ofChange arxBeginsSpec)) arxBeginsCard

/-- THE TIED CARD OF 'sphragislaw01.ArxZeros'. -/
def arxZerosCard : Claim7 := { stood := { row := arxZerosRow, standIns := [], harness := (true, "0877be3efdbac3f24cc3b456a25c1bd0545f61382f56c44c2414083ac434429e"), looks := false }, kinds := [], alts := [], laidByText := true, laidKinds := [.data], laidTests := true, laidLooks := .later }
def ArxZerosCardSaid : Prop := Claim7.holds Tryd.pinned (.plain (OpenSpec.ofChange arxZerosSpec)) arxZerosCard

/-- THE SECOND FORM's CARD OF 'sphragislaw01.ArxQuarters'. -/
def arxQuartersUptoCard : Claim7 := { stood := { row := arxQuartersUptoRow, standIns := [], harness := (true, "0877be3efdbac3f24cc3b456a25c1bd0545f61382f56c44c2414083ac434429e"), looks := false }, kinds := [], alts := [], laidByText := true, laidKinds := [.data], laidTests := true, laidLooks := .later }
def ArxQuartersUptoCardSaid : Prop := Claim7.holds Tryd.pinned (.plain (OpenSpec.upto arxQuartersSpec)) arxQuartersUptoCard

/-- THE SECOND FORM's CARD OF 'sphragislaw01.ArxBlocks'. -/
def arxBlocksUptoCard : Claim7 := { stood := { row := arxBlocksUptoRow, standIns := [], harness := (true, "0877be3efdbac3f24cc3b456a25c1bd0545f61382f56c44c2414083ac434429e"), looks := false }, kinds := [], alts := [], laidByText := true, laidKinds := [.data], laidTests := true, laidLooks := .later }
def ArxBlocksUptoCardSaid : Prop := Claim7.holds Tryd.pinned (.plain (OpenSpec.upto arxBlocksSpec)) arxBlocksUptoCard

/-- THE SECOND FORM's CARD OF 'sphragislaw01.ArxXors'. -/
def arxXorsUptoCard : Claim7 := { stood := { row := arxXorsUptoRow, standIns := [], harness := (true, "0877be3efdbac3f24cc3b456a25c1bd0545f61382f56c44c2414083ac434429e"), looks := false }, kinds := [], alts := [], laidByText := true, laidKinds := [.data], laidTests := true, laidLooks := .later }
def ArxXorsUptoCardSaid : Prop := Claim7.holds Tryd.pinned (.plain (OpenSpec.upto arxXorsSpec)) arxXorsUptoCard

/-- THE SECOND FORM's CARD OF 'sphragislaw01.ArxTwice'. -/
def arxTwiceUptoCard : Claim7 := { stood := { row := arxTwiceUptoRow, standIns := [], harness := (true, "0877be3efdbac3f24cc3b456a25c1bd0545f61382f56c44c2414083ac434429e"), looks := false }, kinds := [], alts := [], laidByText := true, laidKinds := [.data], laidTests := true, laidLooks := .later }
def ArxTwiceUptoCardSaid : Prop := Claim7.holds Tryd.pinned (.plain (OpenSpec.upto arxTwiceSpec)) arxTwiceUptoCard

/-- THE SECOND FORM's CARD OF 'sphragislaw01.ArxBegins'. -/
def arxBeginsUptoCard : Claim7 := { stood := { row := arxBeginsUptoRow, standIns := [], harness := (true, "0877be3efdbac3f24cc3b456a25c1bd0545f61382f56c44c2414083ac434429e"), looks := false }, kinds := [], alts := [], laidByText := true, laidKinds := [.data], laidTests := true, laidLooks := .later }
def ArxBeginsUptoCardSaid : Prop := Claim7.holds Tryd.pinned (.plain (OpenSpec.upto arxBeginsSpec)) arxBeginsUptoCard

/-- THE SECOND FORM's CARD OF 'sphragislaw01.ArxZeros'. -/
def arxZerosUptoCard : Claim7 := { stood := { row := arxZerosUptoRow, standIns := [], harness := (true, "0877be3efdbac3f24cc3b456a25c1bd0545f61382f56c44c2414083ac434429e"), looks := false }, kinds := [], alts := [], laidByText := true, laidKinds := [.data], laidTests := true, laidLooks := .later }
def ArxZerosUptoCardSaid : Prop := Claim7.holds Tryd.pinned (.plain (OpenSpec.upto arxZerosSpec)) arxZerosUptoCard
end Rows
end Go.Proofs.YtnedbakgaggdaaaDoor
