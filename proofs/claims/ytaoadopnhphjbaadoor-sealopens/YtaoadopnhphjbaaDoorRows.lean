/-
  NARROWER THAN 'FOR EVERY INPUT', by the rows' own cells (each row's printed sentence says how): SealHeads: laid · SealSeals: laid · SealOpens: laid · SealBack: laid · SealSame: laid · SealTurns: laid · SealRings: laid.
  DERIVED. THE GIVEN ROWS OF THIS SEAT. 7 by the template 'for every input the law returns true; each argument reads behind the call as it read before'; 0 by the template 'total and deterministic' (their statements: YtaoadopnhphjbaaDoorTotals.lean).
  GIVEN WITH THE SEED: the statements are not yours to turn. If you find one false, say at which input.
  Laid BY PROGRAM, IN A SANDBOX (cutbox-rows.mjs): the forced cells as the released guide's own fill.sh prints them over the translation 2ca073f4689bc552… (all of the seat's roots in one cut). By AI agents, Wed Nov 11 2026. No macro, syntax, notation, axiom, sorry.
-/
import Derived.Test.YtaoadopnhphjbaaDoorChecked
import GoSem.Claim
import GoSem.ClaimJoined
import GoSem.ClaimMapViews
import Derived.JoinedTies
import Derived.KernelRfl
namespace Go.Proofs.YtaoadopnhphjbaaDoor
/- THE CELL 'sum', in the pinned program and in every row, IS THE sha256 OF THE DUMP (.gsa) THAT YtaoadopnhphjbaaDoorProg.lean LOADS. Nothing in Lean hashes anything: it is a label: what it is worth is what the hold of that sum in a sandbox is worth. -/
noncomputable def Tryd.pinned : Pinned := { name := "ytaoadopnhphjbaadoor", sum := "2ca073f4689bc5520a1a2625276a7bc6c07cb1c7d34d1552f1f75c5c977e65f2", checked := Tryd.checked }
namespace Rows
def none {H : Type} : Left H := { results := [], args := [] }

/- WHAT THE LISTED PACKAGE-LEVEL VARIABLES READ AS WHEN THE CALL BEGINS. Each datum BY PROGRAM (the guide's laid-datum.mjs) off the statement by which the dump's own 'gosem.cut.vars' lays the variable. In a bare row this is a premise. The card (YtaoadopnhphjbaaDoorCards.lean) ties it to the program's text. -/
def laid_sphragis_arx_turns {H : Type} : DataW H := .agg [.agg [.lit (.int .i64 0), .lit (.int .i64 4), .lit (.int .i64 8), .lit (.int .i64 12)], .agg [.lit (.int .i64 1), .lit (.int .i64 5), .lit (.int .i64 9), .lit (.int .i64 13)], .agg [.lit (.int .i64 2), .lit (.int .i64 6), .lit (.int .i64 10), .lit (.int .i64 14)], .agg [.lit (.int .i64 3), .lit (.int .i64 7), .lit (.int .i64 11), .lit (.int .i64 15)], .agg [.lit (.int .i64 0), .lit (.int .i64 5), .lit (.int .i64 10), .lit (.int .i64 15)], .agg [.lit (.int .i64 1), .lit (.int .i64 6), .lit (.int .i64 11), .lit (.int .i64 12)], .agg [.lit (.int .i64 2), .lit (.int .i64 7), .lit (.int .i64 8), .lit (.int .i64 13)], .agg [.lit (.int .i64 3), .lit (.int .i64 4), .lit (.int .i64 9), .lit (.int .i64 14)]]
def laid_sphragis_sha_constants {H : Type} : DataW H := .agg [.lit (.int .u32 1116352408), .lit (.int .u32 1899447441), .lit (.int .u32 3049323471), .lit (.int .u32 3921009573), .lit (.int .u32 961987163), .lit (.int .u32 1508970993), .lit (.int .u32 2453635748), .lit (.int .u32 2870763221), .lit (.int .u32 3624381080), .lit (.int .u32 310598401), .lit (.int .u32 607225278), .lit (.int .u32 1426881987), .lit (.int .u32 1925078388), .lit (.int .u32 2162078206), .lit (.int .u32 2614888103), .lit (.int .u32 3248222580), .lit (.int .u32 3835390401), .lit (.int .u32 4022224774), .lit (.int .u32 264347078), .lit (.int .u32 604807628), .lit (.int .u32 770255983), .lit (.int .u32 1249150122), .lit (.int .u32 1555081692), .lit (.int .u32 1996064986), .lit (.int .u32 2554220882), .lit (.int .u32 2821834349), .lit (.int .u32 2952996808), .lit (.int .u32 3210313671), .lit (.int .u32 3336571891), .lit (.int .u32 3584528711), .lit (.int .u32 113926993), .lit (.int .u32 338241895), .lit (.int .u32 666307205), .lit (.int .u32 773529912), .lit (.int .u32 1294757372), .lit (.int .u32 1396182291), .lit (.int .u32 1695183700), .lit (.int .u32 1986661051), .lit (.int .u32 2177026350), .lit (.int .u32 2456956037), .lit (.int .u32 2730485921), .lit (.int .u32 2820302411), .lit (.int .u32 3259730800), .lit (.int .u32 3345764771), .lit (.int .u32 3516065817), .lit (.int .u32 3600352804), .lit (.int .u32 4094571909), .lit (.int .u32 275423344), .lit (.int .u32 430227734), .lit (.int .u32 506948616), .lit (.int .u32 659060556), .lit (.int .u32 883997877), .lit (.int .u32 958139571), .lit (.int .u32 1322822218), .lit (.int .u32 1537002063), .lit (.int .u32 1747873779), .lit (.int .u32 1955562222), .lit (.int .u32 2024104815), .lit (.int .u32 2227730452), .lit (.int .u32 2361852424), .lit (.int .u32 2428436474), .lit (.int .u32 2756734187), .lit (.int .u32 3204031479), .lit (.int .u32 3329325298)]
def laid_sphragis_sphragisref02_table {H : Type} : DataW H := .agg [.lit (.int .u32 1116352408), .lit (.int .u32 1899447441), .lit (.int .u32 3049323471), .lit (.int .u32 3921009573), .lit (.int .u32 961987163), .lit (.int .u32 1508970993), .lit (.int .u32 2453635748), .lit (.int .u32 2870763221), .lit (.int .u32 3624381080), .lit (.int .u32 310598401), .lit (.int .u32 607225278), .lit (.int .u32 1426881987), .lit (.int .u32 1925078388), .lit (.int .u32 2162078206), .lit (.int .u32 2614888103), .lit (.int .u32 3248222580), .lit (.int .u32 3835390401), .lit (.int .u32 4022224774), .lit (.int .u32 264347078), .lit (.int .u32 604807628), .lit (.int .u32 770255983), .lit (.int .u32 1249150122), .lit (.int .u32 1555081692), .lit (.int .u32 1996064986), .lit (.int .u32 2554220882), .lit (.int .u32 2821834349), .lit (.int .u32 2952996808), .lit (.int .u32 3210313671), .lit (.int .u32 3336571891), .lit (.int .u32 3584528711), .lit (.int .u32 113926993), .lit (.int .u32 338241895), .lit (.int .u32 666307205), .lit (.int .u32 773529912), .lit (.int .u32 1294757372), .lit (.int .u32 1396182291), .lit (.int .u32 1695183700), .lit (.int .u32 1986661051), .lit (.int .u32 2177026350), .lit (.int .u32 2456956037), .lit (.int .u32 2730485921), .lit (.int .u32 2820302411), .lit (.int .u32 3259730800), .lit (.int .u32 3345764771), .lit (.int .u32 3516065817), .lit (.int .u32 3600352804), .lit (.int .u32 4094571909), .lit (.int .u32 275423344), .lit (.int .u32 430227734), .lit (.int .u32 506948616), .lit (.int .u32 659060556), .lit (.int .u32 883997877), .lit (.int .u32 958139571), .lit (.int .u32 1322822218), .lit (.int .u32 1537002063), .lit (.int .u32 1747873779), .lit (.int .u32 1955562222), .lit (.int .u32 2024104815), .lit (.int .u32 2227730452), .lit (.int .u32 2361852424), .lit (.int .u32 2428436474), .lit (.int .u32 2756734187), .lit (.int .u32 3204031479), .lit (.int .u32 3329325298)]

/-- 'sphragislaw06.SealHeads': WHATEVER THE INPUT: true; the input reads as it did. -/
def sealHeadsSpec : ChangeSpec := { name := "sealHeads", fn := fun _ => fun
  | [d1, d2] => { results := [.lit (.bool true)], args := [d1, d2] }
  | _ => none }
def sealHeadsRow : OpenClaim := { program := "ytaoadopnhphjbaadoor", sum := "2ca073f4689bc5520a1a2625276a7bc6c07cb1c7d34d1552f1f75c5c977e65f2", func := "sphragis/sphragislaw06.SealHeads", spec := "sealHeads", inPlace := ["internal/abi.NoEscape"], unfollowed := true, recurses := true, named := ["sphragis/sha.constants", "sphragis/arx.turns"], apart := false, laid := [("sphragis/arx.turns", laid_sphragis_arx_turns), ("sphragis/sha.constants", laid_sphragis_sha_constants)] }
def SealHeadsSaid : Prop := sealHeadsRow.holds Tryd.pinned (OpenSpec.ofChange sealHeadsSpec)

/-- ITS FALSE NEIGHBOUR: 'it returns false'. Refute it at one input. -/
def sealHeadsWrong : ChangeSpec := { name := "sealHeads", fn := fun _ => fun
  | [d1, d2] => { results := [.lit (.bool false)], args := [d1, d2] }
  | _ => none }
def SealHeadsWrongFalsely : Prop := sealHeadsRow.holds Tryd.pinned (OpenSpec.ofChange sealHeadsWrong)

/-- 'sphragislaw06.SealSeals': WHATEVER THE INPUT: true; the input reads as it did. -/
def sealSealsSpec : ChangeSpec := { name := "sealSeals", fn := fun _ => fun
  | [d1, d2, d3] => { results := [.lit (.bool true)], args := [d1, d2, d3] }
  | _ => none }
def sealSealsRow : OpenClaim := { program := "ytaoadopnhphjbaadoor", sum := "2ca073f4689bc5520a1a2625276a7bc6c07cb1c7d34d1552f1f75c5c977e65f2", func := "sphragis/sphragislaw06.SealSeals", spec := "sealSeals", inPlace := ["internal/abi.NoEscape"], unfollowed := true, recurses := true, named := ["sphragis/sha.constants", "sphragis/arx.turns", "sphragis/sphragisref02.table"], apart := false, laid := [("sphragis/sphragisref02.table", laid_sphragis_sphragisref02_table), ("sphragis/arx.turns", laid_sphragis_arx_turns), ("sphragis/sha.constants", laid_sphragis_sha_constants)] }
def SealSealsSaid : Prop := sealSealsRow.holds Tryd.pinned (OpenSpec.ofChange sealSealsSpec)

/-- ITS FALSE NEIGHBOUR: 'it returns false'. Refute it at one input. -/
def sealSealsWrong : ChangeSpec := { name := "sealSeals", fn := fun _ => fun
  | [d1, d2, d3] => { results := [.lit (.bool false)], args := [d1, d2, d3] }
  | _ => none }
def SealSealsWrongFalsely : Prop := sealSealsRow.holds Tryd.pinned (OpenSpec.ofChange sealSealsWrong)

/-- 'sphragislaw06.SealOpens': WHATEVER THE INPUT: true; the input reads as it did. -/
def sealOpensSpec : ChangeSpec := { name := "sealOpens", fn := fun _ => fun
  | [d1, d2] => { results := [.lit (.bool true)], args := [d1, d2] }
  | _ => none }
def sealOpensRow : OpenClaim := { program := "ytaoadopnhphjbaadoor", sum := "2ca073f4689bc5520a1a2625276a7bc6c07cb1c7d34d1552f1f75c5c977e65f2", func := "sphragis/sphragislaw06.SealOpens", spec := "sealOpens", inPlace := ["internal/abi.NoEscape"], unfollowed := true, recurses := true, named := ["sphragis/sha.constants", "sphragis/arx.turns", "sphragis/sphragisref02.table"], apart := false, laid := [("sphragis/sphragisref02.table", laid_sphragis_sphragisref02_table), ("sphragis/arx.turns", laid_sphragis_arx_turns), ("sphragis/sha.constants", laid_sphragis_sha_constants)] }
def SealOpensSaid : Prop := sealOpensRow.holds Tryd.pinned (OpenSpec.ofChange sealOpensSpec)

/-- ITS FALSE NEIGHBOUR: 'it returns false'. Refute it at one input. -/
def sealOpensWrong : ChangeSpec := { name := "sealOpens", fn := fun _ => fun
  | [d1, d2] => { results := [.lit (.bool false)], args := [d1, d2] }
  | _ => none }
def SealOpensWrongFalsely : Prop := sealOpensRow.holds Tryd.pinned (OpenSpec.ofChange sealOpensWrong)

/-- 'sphragislaw06.SealBack': WHATEVER THE INPUT: true; the input reads as it did. -/
def sealBackSpec : ChangeSpec := { name := "sealBack", fn := fun _ => fun
  | [d1, d2, d3] => { results := [.lit (.bool true)], args := [d1, d2, d3] }
  | _ => none }
def sealBackRow : OpenClaim := { program := "ytaoadopnhphjbaadoor", sum := "2ca073f4689bc5520a1a2625276a7bc6c07cb1c7d34d1552f1f75c5c977e65f2", func := "sphragis/sphragislaw06.SealBack", spec := "sealBack", inPlace := ["internal/abi.NoEscape"], unfollowed := true, recurses := true, named := ["sphragis/sha.constants", "sphragis/arx.turns"], apart := false, laid := [("sphragis/arx.turns", laid_sphragis_arx_turns), ("sphragis/sha.constants", laid_sphragis_sha_constants)] }
def SealBackSaid : Prop := sealBackRow.holds Tryd.pinned (OpenSpec.ofChange sealBackSpec)

/-- ITS FALSE NEIGHBOUR: 'it returns false'. Refute it at one input. -/
def sealBackWrong : ChangeSpec := { name := "sealBack", fn := fun _ => fun
  | [d1, d2, d3] => { results := [.lit (.bool false)], args := [d1, d2, d3] }
  | _ => none }
def SealBackWrongFalsely : Prop := sealBackRow.holds Tryd.pinned (OpenSpec.ofChange sealBackWrong)

/-- 'sphragislaw06.SealSame': WHATEVER THE INPUT: true; the input reads as it did. -/
def sealSameSpec : ChangeSpec := { name := "sealSame", fn := fun _ => fun
  | [d1, d2] => { results := [.lit (.bool true)], args := [d1, d2] }
  | _ => none }
def sealSameRow : OpenClaim := { program := "ytaoadopnhphjbaadoor", sum := "2ca073f4689bc5520a1a2625276a7bc6c07cb1c7d34d1552f1f75c5c977e65f2", func := "sphragis/sphragislaw06.SealSame", spec := "sealSame", inPlace := ["internal/abi.NoEscape"], unfollowed := true, recurses := true, named := ["sphragis/sha.constants", "sphragis/arx.turns"], apart := false, laid := [("sphragis/arx.turns", laid_sphragis_arx_turns), ("sphragis/sha.constants", laid_sphragis_sha_constants)] }
def SealSameSaid : Prop := sealSameRow.holds Tryd.pinned (OpenSpec.ofChange sealSameSpec)

/-- ITS FALSE NEIGHBOUR: 'it returns false'. Refute it at one input. -/
def sealSameWrong : ChangeSpec := { name := "sealSame", fn := fun _ => fun
  | [d1, d2] => { results := [.lit (.bool false)], args := [d1, d2] }
  | _ => none }
def SealSameWrongFalsely : Prop := sealSameRow.holds Tryd.pinned (OpenSpec.ofChange sealSameWrong)

/-- 'sphragislaw06.SealTurns': WHATEVER THE INPUT: true; the input reads as it did. -/
def sealTurnsSpec : ChangeSpec := { name := "sealTurns", fn := fun _ => fun
  | [d1, d2, d3, d4, d5] => { results := [.lit (.bool true)], args := [d1, d2, d3, d4, d5] }
  | _ => none }
def sealTurnsRow : OpenClaim := { program := "ytaoadopnhphjbaadoor", sum := "2ca073f4689bc5520a1a2625276a7bc6c07cb1c7d34d1552f1f75c5c977e65f2", func := "sphragis/sphragislaw06.SealTurns", spec := "sealTurns", inPlace := ["internal/abi.NoEscape"], unfollowed := true, recurses := true, named := ["sphragis/sha.constants", "sphragis/arx.turns"], apart := false, laid := [("sphragis/arx.turns", laid_sphragis_arx_turns), ("sphragis/sha.constants", laid_sphragis_sha_constants)] }
def SealTurnsSaid : Prop := sealTurnsRow.holds Tryd.pinned (OpenSpec.ofChange sealTurnsSpec)

/-- ITS FALSE NEIGHBOUR: 'it returns false'. Refute it at one input. -/
def sealTurnsWrong : ChangeSpec := { name := "sealTurns", fn := fun _ => fun
  | [d1, d2, d3, d4, d5] => { results := [.lit (.bool false)], args := [d1, d2, d3, d4, d5] }
  | _ => none }
def SealTurnsWrongFalsely : Prop := sealTurnsRow.holds Tryd.pinned (OpenSpec.ofChange sealTurnsWrong)

/-- 'sphragislaw06.SealRings': WHATEVER THE INPUT: true; the input reads as it did. -/
def sealRingsSpec : ChangeSpec := { name := "sealRings", fn := fun _ => fun
  | [d1, d2, d3, d4] => { results := [.lit (.bool true)], args := [d1, d2, d3, d4] }
  | _ => none }
def sealRingsRow : OpenClaim := { program := "ytaoadopnhphjbaadoor", sum := "2ca073f4689bc5520a1a2625276a7bc6c07cb1c7d34d1552f1f75c5c977e65f2", func := "sphragis/sphragislaw06.SealRings", spec := "sealRings", inPlace := ["internal/abi.NoEscape"], unfollowed := true, recurses := true, named := ["sphragis/sha.constants", "sphragis/arx.turns"], apart := false, laid := [("sphragis/arx.turns", laid_sphragis_arx_turns), ("sphragis/sha.constants", laid_sphragis_sha_constants)] }
def SealRingsSaid : Prop := sealRingsRow.holds Tryd.pinned (OpenSpec.ofChange sealRingsSpec)

/-- ITS FALSE NEIGHBOUR: 'it returns false'. Refute it at one input. -/
def sealRingsWrong : ChangeSpec := { name := "sealRings", fn := fun _ => fun
  | [d1, d2, d3, d4] => { results := [.lit (.bool false)], args := [d1, d2, d3, d4] }
  | _ => none }
def SealRingsWrongFalsely : Prop := sealRingsRow.holds Tryd.pinned (OpenSpec.ofChange sealRingsWrong)

/- THE SECOND FORM. 'bulk': how many values and letters a reading holds, each counted each time it is reached (what is shared counts as often as it is met; a slice's spare places count too). A statement '..UptoSaid' is the law's where the arguments, and the package variables that the reading takes, are together of bulk at most 1048576: NARROWER than '..Said'. Prove '..Said' where nothing that the law and all that it calls make is longer than what came in: it says more and counts as full. Else prove '..UptoSaid'. A law counts once. -/
mutual
def uptoBulk {H : Type} : DataW H → Nat
  | .lit (.string bytes) => bytes.length + 1
  | .lit _ => 1
  | .nil => 1
  | .ptr d => uptoBulk d + 1
  | .slice elems spare => uptoBulkAll elems + uptoBulkAll spare + 1
  | .agg parts => uptoBulkAll parts + 1
  | .iface _ d => uptoBulk d + 1
  | .map entries => uptoBulkEntries entries + 1
  | .held _ => 1
def uptoBulkAll {H : Type} : List (DataW H) → Nat
  | [] => 0
  | d :: r => uptoBulk d + uptoBulkAll r
def uptoBulkEntries {H : Type} : List (Lit × DataW H) → Nat
  | [] => 0
  | x :: r => uptoBulkEntry x + uptoBulkEntries r
def uptoBulkEntry {H : Type} : Lit × DataW H → Nat
  | (.string bytes, d) => bytes.length + uptoBulk d + 1
  | (_, d) => uptoBulk d + 1
 end
def uptoSmall : (H : Type) → List (DataW H) → Bool := fun _ ds => decide (uptoBulkAll ds ≤ 1048576)
def OpenSpec.upto (s : _root_.Go.ChangeSpec) : _root_.Go.OpenSpec := { _root_.Go.OpenSpec.ofChange s with cond := some uptoSmall }

/-- 'sphragislaw06.SealHeads', WHERE WHAT IT READS IS OF BULK AT MOST 1048576: true; the input reads as it did. -/
def sealHeadsUptoRow : OpenClaim := { program := "ytaoadopnhphjbaadoor", sum := "2ca073f4689bc5520a1a2625276a7bc6c07cb1c7d34d1552f1f75c5c977e65f2", func := "sphragis/sphragislaw06.SealHeads", spec := "sealHeads", inPlace := ["internal/abi.NoEscape"], unfollowed := true, recurses := true, named := ["sphragis/sha.constants", "sphragis/arx.turns"], apart := false, laid := [("sphragis/arx.turns", laid_sphragis_arx_turns), ("sphragis/sha.constants", laid_sphragis_sha_constants)], narrowed := true }
def SealHeadsUptoSaid : Prop := sealHeadsUptoRow.holds Tryd.pinned (OpenSpec.upto sealHeadsSpec)

/-- 'sphragislaw06.SealSeals', WHERE WHAT IT READS IS OF BULK AT MOST 1048576: true; the input reads as it did. -/
def sealSealsUptoRow : OpenClaim := { program := "ytaoadopnhphjbaadoor", sum := "2ca073f4689bc5520a1a2625276a7bc6c07cb1c7d34d1552f1f75c5c977e65f2", func := "sphragis/sphragislaw06.SealSeals", spec := "sealSeals", inPlace := ["internal/abi.NoEscape"], unfollowed := true, recurses := true, named := ["sphragis/sha.constants", "sphragis/arx.turns", "sphragis/sphragisref02.table"], apart := false, laid := [("sphragis/sphragisref02.table", laid_sphragis_sphragisref02_table), ("sphragis/arx.turns", laid_sphragis_arx_turns), ("sphragis/sha.constants", laid_sphragis_sha_constants)], narrowed := true }
def SealSealsUptoSaid : Prop := sealSealsUptoRow.holds Tryd.pinned (OpenSpec.upto sealSealsSpec)

/-- 'sphragislaw06.SealOpens', WHERE WHAT IT READS IS OF BULK AT MOST 1048576: true; the input reads as it did. -/
def sealOpensUptoRow : OpenClaim := { program := "ytaoadopnhphjbaadoor", sum := "2ca073f4689bc5520a1a2625276a7bc6c07cb1c7d34d1552f1f75c5c977e65f2", func := "sphragis/sphragislaw06.SealOpens", spec := "sealOpens", inPlace := ["internal/abi.NoEscape"], unfollowed := true, recurses := true, named := ["sphragis/sha.constants", "sphragis/arx.turns", "sphragis/sphragisref02.table"], apart := false, laid := [("sphragis/sphragisref02.table", laid_sphragis_sphragisref02_table), ("sphragis/arx.turns", laid_sphragis_arx_turns), ("sphragis/sha.constants", laid_sphragis_sha_constants)], narrowed := true }
def SealOpensUptoSaid : Prop := sealOpensUptoRow.holds Tryd.pinned (OpenSpec.upto sealOpensSpec)

/-- 'sphragislaw06.SealBack', WHERE WHAT IT READS IS OF BULK AT MOST 1048576: true; the input reads as it did. -/
def sealBackUptoRow : OpenClaim := { program := "ytaoadopnhphjbaadoor", sum := "2ca073f4689bc5520a1a2625276a7bc6c07cb1c7d34d1552f1f75c5c977e65f2", func := "sphragis/sphragislaw06.SealBack", spec := "sealBack", inPlace := ["internal/abi.NoEscape"], unfollowed := true, recurses := true, named := ["sphragis/sha.constants", "sphragis/arx.turns"], apart := false, laid := [("sphragis/arx.turns", laid_sphragis_arx_turns), ("sphragis/sha.constants", laid_sphragis_sha_constants)], narrowed := true }
def SealBackUptoSaid : Prop := sealBackUptoRow.holds Tryd.pinned (OpenSpec.upto sealBackSpec)

/-- 'sphragislaw06.SealSame', WHERE WHAT IT READS IS OF BULK AT MOST 1048576: true; the input reads as it did. -/
def sealSameUptoRow : OpenClaim := { program := "ytaoadopnhphjbaadoor", sum := "2ca073f4689bc5520a1a2625276a7bc6c07cb1c7d34d1552f1f75c5c977e65f2", func := "sphragis/sphragislaw06.SealSame", spec := "sealSame", inPlace := ["internal/abi.NoEscape"], unfollowed := true, recurses := true, named := ["sphragis/sha.constants", "sphragis/arx.turns"], apart := false, laid := [("sphragis/arx.turns", laid_sphragis_arx_turns), ("sphragis/sha.constants", laid_sphragis_sha_constants)], narrowed := true }
def SealSameUptoSaid : Prop := sealSameUptoRow.holds Tryd.pinned (OpenSpec.upto sealSameSpec)

/-- 'sphragislaw06.SealTurns', WHERE WHAT IT READS IS OF BULK AT MOST 1048576: true; the input reads as it did. -/
def sealTurnsUptoRow : OpenClaim := { program := "ytaoadopnhphjbaadoor", sum := "2ca073f4689bc5520a1a2625276a7bc6c07cb1c7d34d1552f1f75c5c977e65f2", func := "sphragis/sphragislaw06.SealTurns", spec := "sealTurns", inPlace := ["internal/abi.NoEscape"], unfollowed := true, recurses := true, named := ["sphragis/sha.constants", "sphragis/arx.turns"], apart := false, laid := [("sphragis/arx.turns", laid_sphragis_arx_turns), ("sphragis/sha.constants", laid_sphragis_sha_constants)], narrowed := true }
def SealTurnsUptoSaid : Prop := sealTurnsUptoRow.holds Tryd.pinned (OpenSpec.upto sealTurnsSpec)

/-- 'sphragislaw06.SealRings', WHERE WHAT IT READS IS OF BULK AT MOST 1048576: true; the input reads as it did. -/
def sealRingsUptoRow : OpenClaim := { program := "ytaoadopnhphjbaadoor", sum := "2ca073f4689bc5520a1a2625276a7bc6c07cb1c7d34d1552f1f75c5c977e65f2", func := "sphragis/sphragislaw06.SealRings", spec := "sealRings", inPlace := ["internal/abi.NoEscape"], unfollowed := true, recurses := true, named := ["sphragis/sha.constants", "sphragis/arx.turns"], apart := false, laid := [("sphragis/arx.turns", laid_sphragis_arx_turns), ("sphragis/sha.constants", laid_sphragis_sha_constants)], narrowed := true }
def SealRingsUptoSaid : Prop := sealRingsUptoRow.holds Tryd.pinned (OpenSpec.upto sealRingsSpec)

end Rows
end Go.Proofs.YtaoadopnhphjbaaDoor
