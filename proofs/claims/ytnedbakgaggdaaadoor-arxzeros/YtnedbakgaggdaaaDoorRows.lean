/-
  NARROWER THAN 'FOR EVERY INPUT', by the rows' own cells (each row's printed sentence says how): ArxQuarters: laid · ArxBlocks: laid · ArxXors: laid · ArxTwice: laid · ArxBegins: laid · ArxZeros: laid.
  DERIVED. THE GIVEN ROWS OF THIS SEAT. 6 by the template 'for every input the law returns true; each argument reads behind the call as it read before'; 0 by the template 'total and deterministic' (their statements: YtnedbakgaggdaaaDoorTotals.lean).
  GIVEN WITH THE SEED: the statements are not yours to turn. If you find one false, say at which input.
  Laid BY PROGRAM, IN A SANDBOX (cutbox-rows.mjs): the forced cells as the released guide's own fill.sh prints them over the translation 97113f2c0816e940… (all of the seat's roots in one cut). By AI agents, Wed Nov 11 2026. No macro, syntax, notation, axiom, sorry.
-/
import Derived.Test.YtnedbakgaggdaaaDoorChecked
import GoSem.Claim
import GoSem.ClaimJoined
import GoSem.ClaimMapViews
import Derived.JoinedTies
import Derived.KernelRfl
namespace Go.Proofs.YtnedbakgaggdaaaDoor
/- THE CELL 'sum', in the pinned program and in every row, IS THE sha256 OF THE DUMP (.gsa) THAT YtnedbakgaggdaaaDoorProg.lean LOADS. Nothing in Lean hashes anything: it is a label: what it is worth is what the hold of that sum in a sandbox is worth. -/
noncomputable def Tryd.pinned : Pinned := { name := "ytnedbakgaggdaaadoor", sum := "97113f2c0816e940695a4ab8c13716441e503014875cb39fe113a64bb8b192fa", checked := Tryd.checked }
namespace Rows
def none {H : Type} : Left H := { results := [], args := [] }

/- WHAT THE LISTED PACKAGE-LEVEL VARIABLES READ AS WHEN THE CALL BEGINS. Each datum BY PROGRAM (the guide's laid-datum.mjs) off the statement by which the dump's own 'gosem.cut.vars' lays the variable. In a bare row this is a premise. The card (YtnedbakgaggdaaaDoorCards.lean) ties it to the program's text. -/
def laid_sphragis_arx_turns {H : Type} : DataW H := .agg [.agg [.lit (.int .i64 0), .lit (.int .i64 4), .lit (.int .i64 8), .lit (.int .i64 12)], .agg [.lit (.int .i64 1), .lit (.int .i64 5), .lit (.int .i64 9), .lit (.int .i64 13)], .agg [.lit (.int .i64 2), .lit (.int .i64 6), .lit (.int .i64 10), .lit (.int .i64 14)], .agg [.lit (.int .i64 3), .lit (.int .i64 7), .lit (.int .i64 11), .lit (.int .i64 15)], .agg [.lit (.int .i64 0), .lit (.int .i64 5), .lit (.int .i64 10), .lit (.int .i64 15)], .agg [.lit (.int .i64 1), .lit (.int .i64 6), .lit (.int .i64 11), .lit (.int .i64 12)], .agg [.lit (.int .i64 2), .lit (.int .i64 7), .lit (.int .i64 8), .lit (.int .i64 13)], .agg [.lit (.int .i64 3), .lit (.int .i64 4), .lit (.int .i64 9), .lit (.int .i64 14)]]

/-- 'sphragislaw01.ArxQuarters': WHATEVER THE INPUT: true; the input reads as it did. -/
def arxQuartersSpec : ChangeSpec := { name := "arxQuarters", fn := fun _ => fun
  | [d1, d2, d3, d4] => { results := [.lit (.bool true)], args := [d1, d2, d3, d4] }
  | _ => none }
def arxQuartersRow : OpenClaim := { program := "ytnedbakgaggdaaadoor", sum := "97113f2c0816e940695a4ab8c13716441e503014875cb39fe113a64bb8b192fa", func := "sphragis/sphragislaw01.ArxQuarters", spec := "arxQuarters", unfollowed := true, recurses := true, named := ["sphragis/arx.turns"], apart := false, laid := [("sphragis/arx.turns", laid_sphragis_arx_turns)] }
def ArxQuartersSaid : Prop := arxQuartersRow.holds Tryd.pinned (OpenSpec.ofChange arxQuartersSpec)

/-- ITS FALSE NEIGHBOUR: 'it returns false'. Refute it at one input. -/
def arxQuartersWrong : ChangeSpec := { name := "arxQuarters", fn := fun _ => fun
  | [d1, d2, d3, d4] => { results := [.lit (.bool false)], args := [d1, d2, d3, d4] }
  | _ => none }
def ArxQuartersWrongFalsely : Prop := arxQuartersRow.holds Tryd.pinned (OpenSpec.ofChange arxQuartersWrong)

/-- 'sphragislaw01.ArxBlocks': WHATEVER THE INPUT: true; the input reads as it did. -/
def arxBlocksSpec : ChangeSpec := { name := "arxBlocks", fn := fun _ => fun
  | [d1, d2, d3] => { results := [.lit (.bool true)], args := [d1, d2, d3] }
  | _ => none }
def arxBlocksRow : OpenClaim := { program := "ytnedbakgaggdaaadoor", sum := "97113f2c0816e940695a4ab8c13716441e503014875cb39fe113a64bb8b192fa", func := "sphragis/sphragislaw01.ArxBlocks", spec := "arxBlocks", unfollowed := true, recurses := true, named := ["sphragis/arx.turns"], apart := false, laid := [("sphragis/arx.turns", laid_sphragis_arx_turns)] }
def ArxBlocksSaid : Prop := arxBlocksRow.holds Tryd.pinned (OpenSpec.ofChange arxBlocksSpec)

/-- ITS FALSE NEIGHBOUR: 'it returns false'. Refute it at one input. -/
def arxBlocksWrong : ChangeSpec := { name := "arxBlocks", fn := fun _ => fun
  | [d1, d2, d3] => { results := [.lit (.bool false)], args := [d1, d2, d3] }
  | _ => none }
def ArxBlocksWrongFalsely : Prop := arxBlocksRow.holds Tryd.pinned (OpenSpec.ofChange arxBlocksWrong)

/-- 'sphragislaw01.ArxXors': WHATEVER THE INPUT: true; the input reads as it did. -/
def arxXorsSpec : ChangeSpec := { name := "arxXors", fn := fun _ => fun
  | [d1, d2, d3] => { results := [.lit (.bool true)], args := [d1, d2, d3] }
  | _ => none }
def arxXorsRow : OpenClaim := { program := "ytnedbakgaggdaaadoor", sum := "97113f2c0816e940695a4ab8c13716441e503014875cb39fe113a64bb8b192fa", func := "sphragis/sphragislaw01.ArxXors", spec := "arxXors", unfollowed := true, recurses := true, named := ["sphragis/arx.turns"], apart := false, laid := [("sphragis/arx.turns", laid_sphragis_arx_turns)] }
def ArxXorsSaid : Prop := arxXorsRow.holds Tryd.pinned (OpenSpec.ofChange arxXorsSpec)

/-- ITS FALSE NEIGHBOUR: 'it returns false'. Refute it at one input. -/
def arxXorsWrong : ChangeSpec := { name := "arxXors", fn := fun _ => fun
  | [d1, d2, d3] => { results := [.lit (.bool false)], args := [d1, d2, d3] }
  | _ => none }
def ArxXorsWrongFalsely : Prop := arxXorsRow.holds Tryd.pinned (OpenSpec.ofChange arxXorsWrong)

/-- 'sphragislaw01.ArxTwice': WHATEVER THE INPUT: true; the input reads as it did. -/
def arxTwiceSpec : ChangeSpec := { name := "arxTwice", fn := fun _ => fun
  | [d1, d2, d3] => { results := [.lit (.bool true)], args := [d1, d2, d3] }
  | _ => none }
def arxTwiceRow : OpenClaim := { program := "ytnedbakgaggdaaadoor", sum := "97113f2c0816e940695a4ab8c13716441e503014875cb39fe113a64bb8b192fa", func := "sphragis/sphragislaw01.ArxTwice", spec := "arxTwice", unfollowed := true, recurses := true, named := ["sphragis/arx.turns"], apart := false, laid := [("sphragis/arx.turns", laid_sphragis_arx_turns)] }
def ArxTwiceSaid : Prop := arxTwiceRow.holds Tryd.pinned (OpenSpec.ofChange arxTwiceSpec)

/-- ITS FALSE NEIGHBOUR: 'it returns false'. Refute it at one input. -/
def arxTwiceWrong : ChangeSpec := { name := "arxTwice", fn := fun _ => fun
  | [d1, d2, d3] => { results := [.lit (.bool false)], args := [d1, d2, d3] }
  | _ => none }
def ArxTwiceWrongFalsely : Prop := arxTwiceRow.holds Tryd.pinned (OpenSpec.ofChange arxTwiceWrong)

/-- 'sphragislaw01.ArxBegins': WHATEVER THE INPUT: true; the input reads as it did. -/
def arxBeginsSpec : ChangeSpec := { name := "arxBegins", fn := fun _ => fun
  | [d1, d2, d3, d4, d5] => { results := [.lit (.bool true)], args := [d1, d2, d3, d4, d5] }
  | _ => none }
def arxBeginsRow : OpenClaim := { program := "ytnedbakgaggdaaadoor", sum := "97113f2c0816e940695a4ab8c13716441e503014875cb39fe113a64bb8b192fa", func := "sphragis/sphragislaw01.ArxBegins", spec := "arxBegins", unfollowed := true, recurses := true, named := ["sphragis/arx.turns"], apart := false, laid := [("sphragis/arx.turns", laid_sphragis_arx_turns)] }
def ArxBeginsSaid : Prop := arxBeginsRow.holds Tryd.pinned (OpenSpec.ofChange arxBeginsSpec)

/-- ITS FALSE NEIGHBOUR: 'it returns false'. Refute it at one input. -/
def arxBeginsWrong : ChangeSpec := { name := "arxBegins", fn := fun _ => fun
  | [d1, d2, d3, d4, d5] => { results := [.lit (.bool false)], args := [d1, d2, d3, d4, d5] }
  | _ => none }
def ArxBeginsWrongFalsely : Prop := arxBeginsRow.holds Tryd.pinned (OpenSpec.ofChange arxBeginsWrong)

/-- 'sphragislaw01.ArxZeros': WHATEVER THE INPUT: true; the input reads as it did. -/
def arxZerosSpec : ChangeSpec := { name := "arxZeros", fn := fun _ => fun
  | [d1, d2, d3] => { results := [.lit (.bool true)], args := [d1, d2, d3] }
  | _ => none }
def arxZerosRow : OpenClaim := { program := "ytnedbakgaggdaaadoor", sum := "97113f2c0816e940695a4ab8c13716441e503014875cb39fe113a64bb8b192fa", func := "sphragis/sphragislaw01.ArxZeros", spec := "arxZeros", unfollowed := true, recurses := true, named := ["sphragis/arx.turns"], apart := false, laid := [("sphragis/arx.turns", laid_sphragis_arx_turns)] }
def ArxZerosSaid : Prop := arxZerosRow.holds Tryd.pinned (OpenSpec.ofChange arxZerosSpec)

/-- ITS FALSE NEIGHBOUR: 'it returns false'. Refute it at one input. -/
def arxZerosWrong : ChangeSpec := { name := "arxZeros", fn := fun _ => fun
  | [d1, d2, d3] => { results := [.lit (.bool false)], args := [d1, d2, d3] }
  | _ => none }
def ArxZerosWrongFalsely : Prop := arxZerosRow.holds Tryd.pinned (OpenSpec.ofChange arxZerosWrong)

/- THE SECOND FORM. 'bulk': how many values and letters a reading holds, each counted each time it is reached (what is shared counts as often as it is met; a slice's spare places count too). A statement '..UptoSaid' is the law's where the arguments, and the package variables that the reading takes, are together of bulk at most 1048576: NARROWER than '..Said'. Prove '..Said' where nothing that the law and all that it calls make is longer than what came in: it says more and counts as full. Else prove '..UptoSaid'. A law counts once. -/
mutual
def uptoBulk {H : Type} : DataW H → Nat
  | .lit (.string bytes) => bytes.length + 1
  | .lit _ => 1
  | .nil => 1
  | .ptr d => uptoBulk d + 1
  | .slice elems spare => uptoBulkAll elems + uptoBulkAll spare + 1
  | .agg parts => uptoBulkAll parts + 1
  | .iface _ d => uptoBulk d + 1
  | .map entries => uptoBulkEntries entries + 1
  | .held _ => 1
def uptoBulkAll {H : Type} : List (DataW H) → Nat
  | [] => 0
  | d :: r => uptoBulk d + uptoBulkAll r
def uptoBulkEntries {H : Type} : List (Lit × DataW H) → Nat
  | [] => 0
  | x :: r => uptoBulkEntry x + uptoBulkEntries r
def uptoBulkEntry {H : Type} : Lit × DataW H → Nat
  | (.string bytes, d) => bytes.length + uptoBulk d + 1
  | (_, d) => uptoBulk d + 1
 end
def uptoSmall : (H : Type) → List (DataW H) → Bool := fun _ ds => decide (uptoBulkAll ds ≤ 1048576)
def OpenSpec.upto (s : _root_.Go.ChangeSpec) : _root_.Go.OpenSpec := { _root_.Go.OpenSpec.ofChange s with cond := some uptoSmall }

/-- 'sphragislaw01.ArxQuarters', WHERE WHAT IT READS IS OF BULK AT MOST 1048576: true; the input reads as it did. -/
def arxQuartersUptoRow : OpenClaim := { program := "ytnedbakgaggdaaadoor", sum := "97113f2c0816e940695a4ab8c13716441e503014875cb39fe113a64bb8b192fa", func := "sphragis/sphragislaw01.ArxQuarters", spec := "arxQuarters", unfollowed := true, recurses := true, named := ["sphragis/arx.turns"], apart := false, laid := [("sphragis/arx.turns", laid_sphragis_arx_turns)], narrowed := true }
def ArxQuartersUptoSaid : Prop := arxQuartersUptoRow.holds Tryd.pinned (OpenSpec.upto arxQuartersSpec)

/-- 'sphragislaw01.ArxBlocks', WHERE WHAT IT READS IS OF BULK AT MOST 1048576: true; the input reads as it did. -/
def arxBlocksUptoRow : OpenClaim := { program := "ytnedbakgaggdaaadoor", sum := "97113f2c0816e940695a4ab8c13716441e503014875cb39fe113a64bb8b192fa", func := "sphragis/sphragislaw01.ArxBlocks", spec := "arxBlocks", unfollowed := true, recurses := true, named := ["sphragis/arx.turns"], apart := false, laid := [("sphragis/arx.turns", laid_sphragis_arx_turns)], narrowed := true }
def ArxBlocksUptoSaid : Prop := arxBlocksUptoRow.holds Tryd.pinned (OpenSpec.upto arxBlocksSpec)

/-- 'sphragislaw01.ArxXors', WHERE WHAT IT READS IS OF BULK AT MOST 1048576: true; the input reads as it did. -/
def arxXorsUptoRow : OpenClaim := { program := "ytnedbakgaggdaaadoor", sum := "97113f2c0816e940695a4ab8c13716441e503014875cb39fe113a64bb8b192fa", func := "sphragis/sphragislaw01.ArxXors", spec := "arxXors", unfollowed := true, recurses := true, named := ["sphragis/arx.turns"], apart := false, laid := [("sphragis/arx.turns", laid_sphragis_arx_turns)], narrowed := true }
def ArxXorsUptoSaid : Prop := arxXorsUptoRow.holds Tryd.pinned (OpenSpec.upto arxXorsSpec)

/-- 'sphragislaw01.ArxTwice', WHERE WHAT IT READS IS OF BULK AT MOST 1048576: true; the input reads as it did. -/
def arxTwiceUptoRow : OpenClaim := { program := "ytnedbakgaggdaaadoor", sum := "97113f2c0816e940695a4ab8c13716441e503014875cb39fe113a64bb8b192fa", func := "sphragis/sphragislaw01.ArxTwice", spec := "arxTwice", unfollowed := true, recurses := true, named := ["sphragis/arx.turns"], apart := false, laid := [("sphragis/arx.turns", laid_sphragis_arx_turns)], narrowed := true }
def ArxTwiceUptoSaid : Prop := arxTwiceUptoRow.holds Tryd.pinned (OpenSpec.upto arxTwiceSpec)

/-- 'sphragislaw01.ArxBegins', WHERE WHAT IT READS IS OF BULK AT MOST 1048576: true; the input reads as it did. -/
def arxBeginsUptoRow : OpenClaim := { program := "ytnedbakgaggdaaadoor", sum := "97113f2c0816e940695a4ab8c13716441e503014875cb39fe113a64bb8b192fa", func := "sphragis/sphragislaw01.ArxBegins", spec := "arxBegins", unfollowed := true, recurses := true, named := ["sphragis/arx.turns"], apart := false, laid := [("sphragis/arx.turns", laid_sphragis_arx_turns)], narrowed := true }
def ArxBeginsUptoSaid : Prop := arxBeginsUptoRow.holds Tryd.pinned (OpenSpec.upto arxBeginsSpec)

/-- 'sphragislaw01.ArxZeros', WHERE WHAT IT READS IS OF BULK AT MOST 1048576: true; the input reads as it did. -/
def arxZerosUptoRow : OpenClaim := { program := "ytnedbakgaggdaaadoor", sum := "97113f2c0816e940695a4ab8c13716441e503014875cb39fe113a64bb8b192fa", func := "sphragis/sphragislaw01.ArxZeros", spec := "arxZeros", unfollowed := true, recurses := true, named := ["sphragis/arx.turns"], apart := false, laid := [("sphragis/arx.turns", laid_sphragis_arx_turns)], narrowed := true }
def ArxZerosUptoSaid : Prop := arxZerosUptoRow.holds Tryd.pinned (OpenSpec.upto arxZerosSpec)

end Rows
end Go.Proofs.YtnedbakgaggdaaaDoor
