/-
  NARROWER THAN 'FOR EVERY INPUT', by the rows' own cells (each row's printed sentence says how): Ledger: laid · Pieces: laid.
  DERIVED. THE GIVEN ROWS OF THIS SEAT. 2 by the template 'for every input the law returns true; each argument reads behind the call as it read before'; 0 by the template 'total and deterministic' (their statements: YtdccldbefdfppaaGreatDoorTotals.lean).
  GIVEN WITH THE SEED: the statements are not yours to turn. If you find one false, say at which input.
  Laid BY PROGRAM, IN A SANDBOX (cutbox-rows.mjs): the forced cells as the released guide's own fill.sh prints them over the translation 9d807e29ba0f3485… (all of the seat's roots in one cut). By AI agents, Wed Nov 11 2026. No macro, syntax, notation, axiom, sorry.
-/
import Derived.Test.YtdccldbefdfppaaGreatDoorChecked
import GoSem.Claim
import GoSem.ClaimJoined
import GoSem.ClaimMapViews
import Derived.JoinedTies
import Derived.KernelRfl
namespace Go.Proofs.YtdccldbefdfppaaGreatDoor
/- THE CELL 'sum', in the pinned program and in every row, IS THE sha256 OF THE DUMP (.gsa) THAT YtdccldbefdfppaaGreatDoorProg.lean LOADS. Nothing in Lean hashes anything: it is a label: what it is worth is what the hold of that sum in a sandbox is worth. -/
noncomputable def Tryz.pinned : Pinned := { name := "ytdccldbefdfppaagreatdoor", sum := "9d807e29ba0f3485a8bb874a5ad9bf3b9c565a64aecbb9b298ed2caaffae8c3e", checked := Tryz.checked }
namespace Rows
def none {H : Type} : Left H := { results := [], args := [] }

/- WHAT THE LISTED PACKAGE-LEVEL VARIABLES READ AS WHEN THE CALL BEGINS. Each datum BY PROGRAM (the guide's laid-datum.mjs) off the statement by which the dump's own 'gosem.cut.vars' lays the variable. In a bare row this is a premise. The card (YtdccldbefdfppaaGreatDoorCards.lean) ties it to the program's text. -/
def laid_sluice_blocks_byNumber {H : Type} : DataW H := .agg [.lit (.int .u8 128), .lit (.int .i64 7)]
def laid_sluice_blocks_toAdd {H : Type} : DataW H := .agg [.lit (.int .u8 64), .lit (.int .i64 6)]
def laid_sluice_blocks_toLimit {H : Type} : DataW H := .agg [.lit (.int .u8 32), .lit (.int .i64 5)]
def laid_sluice_blocks_notToAdd {H : Type} : DataW H := .agg [.lit (.int .u8 0), .lit (.int .i64 4)]
def laid_sluice_blocks_plain {H : Type} : DataW H := .agg [.lit (.int .u8 0), .lit (.int .i64 7)]
def laid_sluice_blocks_packed {H : Type} : DataW H := .agg [.lit (.int .u8 128), .lit (.int .i64 7)]
def laid_sluice_blocks_fixed {H : Type} : DataW H := .agg [.agg [.lit (.string [112, 97, 116, 104]), .lit (.string [47])], .agg [.lit (.string [112, 97, 116, 104]), .lit (.string [47, 105, 110, 100, 101, 120])], .agg [.lit (.string [118, 101, 114, 98]), .lit (.string [103, 101, 116])], .agg [.lit (.string [118, 101, 114, 98]), .lit (.string [112, 117, 116])], .agg [.lit (.string [107, 105, 110, 100]), .lit (.string [116, 101, 120, 116])], .agg [.lit (.string [107, 105, 110, 100]), .lit (.string [98, 121, 116, 101, 115])], .agg [.lit (.string [104, 111, 115, 116]), .lit (.string [])], .agg [.lit (.string [108, 101, 110, 103, 116, 104]), .lit (.string [48])]]

/-- 'sluicekeep.Ledger': WHATEVER THE INPUT: true; the input reads as it did. -/
def ledgerSpec : ChangeSpec := { name := "ledger", fn := fun _ => fun
  | [d1, d2, d3] => { results := [.lit (.bool true)], args := [d1, d2, d3] }
  | _ => none }
def ledgerRow : OpenClaim := { program := "ytdccldbefdfppaagreatdoor", sum := "9d807e29ba0f3485a8bb874a5ad9bf3b9c565a64aecbb9b298ed2caaffae8c3e", func := "sluice/sluicekeep.Ledger", spec := "ledger", inPlace := ["internal/bytealg.IndexByteString"], unfollowed := true, recurses := true, named := ["sluice/blocks.toLimit", "sluice/blocks.byNumber", "sluice/blocks.toAdd", "sluice/blocks.notToAdd", "sluice/blocks.fixed", "sluice/blocks.packed", "sluice/blocks.plain"], apart := false, laid := [("sluice/blocks.byNumber", laid_sluice_blocks_byNumber), ("sluice/blocks.toAdd", laid_sluice_blocks_toAdd), ("sluice/blocks.toLimit", laid_sluice_blocks_toLimit), ("sluice/blocks.notToAdd", laid_sluice_blocks_notToAdd), ("sluice/blocks.plain", laid_sluice_blocks_plain), ("sluice/blocks.packed", laid_sluice_blocks_packed), ("sluice/blocks.fixed", laid_sluice_blocks_fixed)] }
def LedgerSaid : Prop := ledgerRow.holds Tryz.pinned (OpenSpec.ofChange ledgerSpec)

/-- ITS FALSE NEIGHBOUR: 'it returns false'. Refute it at one input. -/
def ledgerWrong : ChangeSpec := { name := "ledger", fn := fun _ => fun
  | [d1, d2, d3] => { results := [.lit (.bool false)], args := [d1, d2, d3] }
  | _ => none }
def LedgerWrongFalsely : Prop := ledgerRow.holds Tryz.pinned (OpenSpec.ofChange ledgerWrong)

/-- 'sluicekeep.Pieces': WHATEVER THE INPUT: true; the input reads as it did. -/
def piecesSpec : ChangeSpec := { name := "pieces", fn := fun _ => fun
  | [d1, d2, d3, d4, d5] => { results := [.lit (.bool true)], args := [d1, d2, d3, d4, d5] }
  | _ => none }
def piecesRow : OpenClaim := { program := "ytdccldbefdfppaagreatdoor", sum := "9d807e29ba0f3485a8bb874a5ad9bf3b9c565a64aecbb9b298ed2caaffae8c3e", func := "sluice/sluicekeep.Pieces", spec := "pieces", inPlace := ["internal/bytealg.IndexByteString"], unfollowed := true, recurses := true, named := ["sluice/blocks.toLimit", "sluice/blocks.byNumber", "sluice/blocks.toAdd", "sluice/blocks.notToAdd", "sluice/blocks.fixed", "sluice/blocks.packed", "sluice/blocks.plain"], apart := false, laid := [("sluice/blocks.byNumber", laid_sluice_blocks_byNumber), ("sluice/blocks.toAdd", laid_sluice_blocks_toAdd), ("sluice/blocks.toLimit", laid_sluice_blocks_toLimit), ("sluice/blocks.notToAdd", laid_sluice_blocks_notToAdd), ("sluice/blocks.plain", laid_sluice_blocks_plain), ("sluice/blocks.packed", laid_sluice_blocks_packed), ("sluice/blocks.fixed", laid_sluice_blocks_fixed)] }
def PiecesSaid : Prop := piecesRow.holds Tryz.pinned (OpenSpec.ofChange piecesSpec)

/-- ITS FALSE NEIGHBOUR: 'it returns false'. Refute it at one input. -/
def piecesWrong : ChangeSpec := { name := "pieces", fn := fun _ => fun
  | [d1, d2, d3, d4, d5] => { results := [.lit (.bool false)], args := [d1, d2, d3, d4, d5] }
  | _ => none }
def PiecesWrongFalsely : Prop := piecesRow.holds Tryz.pinned (OpenSpec.ofChange piecesWrong)

/- THE SECOND FORM. 'bulk': how many values and letters a reading holds, each counted each time it is reached (what is shared counts as often as it is met; a slice's spare places count too). A statement '..UptoSaid' is the law's where the arguments, and the package variables that the reading takes, are together of bulk at most 1048576: NARROWER than '..Said'. Prove '..Said' where nothing that the law and all that it calls make is longer than what came in: it says more and counts as full. Else prove '..UptoSaid'. A law counts once. -/
mutual
def uptoBulk {H : Type} : DataW H → Nat
  | .lit (.string bytes) => bytes.length + 1
  | .lit _ => 1
  | .nil => 1
  | .ptr d => uptoBulk d + 1
  | .slice elems spare => uptoBulkAll elems + uptoBulkAll spare + 1
  | .agg parts => uptoBulkAll parts + 1
  | .iface _ d => uptoBulk d + 1
  | .map entries => uptoBulkEntries entries + 1
  | .held _ => 1
def uptoBulkAll {H : Type} : List (DataW H) → Nat
  | [] => 0
  | d :: r => uptoBulk d + uptoBulkAll r
def uptoBulkEntries {H : Type} : List (Lit × DataW H) → Nat
  | [] => 0
  | x :: r => uptoBulkEntry x + uptoBulkEntries r
def uptoBulkEntry {H : Type} : Lit × DataW H → Nat
  | (.string bytes, d) => bytes.length + uptoBulk d + 1
  | (_, d) => uptoBulk d + 1
 end
def uptoSmall : (H : Type) → List (DataW H) → Bool := fun _ ds => decide (uptoBulkAll ds ≤ 1048576)
def OpenSpec.upto (s : _root_.Go.ChangeSpec) : _root_.Go.OpenSpec := { _root_.Go.OpenSpec.ofChange s with cond := some uptoSmall }

/-- 'sluicekeep.Ledger', WHERE WHAT IT READS IS OF BULK AT MOST 1048576: true; the input reads as it did. -/
def ledgerUptoRow : OpenClaim := { program := "ytdccldbefdfppaagreatdoor", sum := "9d807e29ba0f3485a8bb874a5ad9bf3b9c565a64aecbb9b298ed2caaffae8c3e", func := "sluice/sluicekeep.Ledger", spec := "ledger", inPlace := ["internal/bytealg.IndexByteString"], unfollowed := true, recurses := true, named := ["sluice/blocks.toLimit", "sluice/blocks.byNumber", "sluice/blocks.toAdd", "sluice/blocks.notToAdd", "sluice/blocks.fixed", "sluice/blocks.packed", "sluice/blocks.plain"], apart := false, laid := [("sluice/blocks.byNumber", laid_sluice_blocks_byNumber), ("sluice/blocks.toAdd", laid_sluice_blocks_toAdd), ("sluice/blocks.toLimit", laid_sluice_blocks_toLimit), ("sluice/blocks.notToAdd", laid_sluice_blocks_notToAdd), ("sluice/blocks.plain", laid_sluice_blocks_plain), ("sluice/blocks.packed", laid_sluice_blocks_packed), ("sluice/blocks.fixed", laid_sluice_blocks_fixed)], narrowed := true }
def LedgerUptoSaid : Prop := ledgerUptoRow.holds Tryz.pinned (OpenSpec.upto ledgerSpec)

/-- 'sluicekeep.Pieces', WHERE WHAT IT READS IS OF BULK AT MOST 1048576: true; the input reads as it did. -/
def piecesUptoRow : OpenClaim := { program := "ytdccldbefdfppaagreatdoor", sum := "9d807e29ba0f3485a8bb874a5ad9bf3b9c565a64aecbb9b298ed2caaffae8c3e", func := "sluice/sluicekeep.Pieces", spec := "pieces", inPlace := ["internal/bytealg.IndexByteString"], unfollowed := true, recurses := true, named := ["sluice/blocks.toLimit", "sluice/blocks.byNumber", "sluice/blocks.toAdd", "sluice/blocks.notToAdd", "sluice/blocks.fixed", "sluice/blocks.packed", "sluice/blocks.plain"], apart := false, laid := [("sluice/blocks.byNumber", laid_sluice_blocks_byNumber), ("sluice/blocks.toAdd", laid_sluice_blocks_toAdd), ("sluice/blocks.toLimit", laid_sluice_blocks_toLimit), ("sluice/blocks.notToAdd", laid_sluice_blocks_notToAdd), ("sluice/blocks.plain", laid_sluice_blocks_plain), ("sluice/blocks.packed", laid_sluice_blocks_packed), ("sluice/blocks.fixed", laid_sluice_blocks_fixed)], narrowed := true }
def PiecesUptoSaid : Prop := piecesUptoRow.holds Tryz.pinned (OpenSpec.upto piecesSpec)

end Rows
end Go.Proofs.YtdccldbefdfppaaGreatDoor
