/-
  NARROWER THAN 'FOR EVERY INPUT', by the rows' own cells (each row's printed sentence says how): Bounded: laid · Tuned: laid.
  DERIVED. THE GIVEN ROWS OF THIS SEAT. 2 by the template 'for every input the law returns true; each argument reads behind the call as it read before'; 0 by the template 'total and deterministic' (their statements: YtlhlmgfblbpdpaaGreatDoorTotals.lean).
  GIVEN WITH THE SEED: the statements are not yours to turn. If you find one false, say at which input.
  Laid BY PROGRAM, IN A SANDBOX (cutbox-rows.mjs): the forced cells as the released guide's own fill.sh prints them over the translation dd6164ced08645c2… (all of the seat's roots in one cut). By AI agents, Wed Nov 11 2026. No macro, syntax, notation, axiom, sorry.
-/
import Derived.Test.YtlhlmgfblbpdpaaGreatDoorChecked
import GoSem.Claim
import GoSem.ClaimJoined
import GoSem.ClaimMapViews
import Derived.JoinedTies
import Derived.KernelRfl
namespace Go.Proofs.YtlhlmgfblbpdpaaGreatDoor
/- THE CELL 'sum', in the pinned program and in every row, IS THE sha256 OF THE DUMP (.gsa) THAT YtlhlmgfblbpdpaaGreatDoorProg.lean LOADS. Nothing in Lean hashes anything: it is a label: what it is worth is what the hold of that sum in a sandbox is worth. -/
noncomputable def Tryz.pinned : Pinned := { name := "ytlhlmgfblbpdpaagreatdoor", sum := "dd6164ced08645c2bf88b4e2bbfba99e496c3d18ecd54a6e1ca9a10edf0bcb76", checked := Tryz.checked }
namespace Rows
def none {H : Type} : Left H := { results := [], args := [] }

/- WHAT THE LISTED PACKAGE-LEVEL VARIABLES READ AS WHEN THE CALL BEGINS. Each datum BY PROGRAM (the guide's laid-datum.mjs) off the statement by which the dump's own 'gosem.cut.vars' lays the variable. In a bare row this is a premise. The card (YtlhlmgfblbpdpaaGreatDoorCards.lean) ties it to the program's text. -/
def laid_sluice_blocks_byNumber {H : Type} : DataW H := .agg [.lit (.int .u8 128), .lit (.int .i64 7)]
def laid_sluice_blocks_toAdd {H : Type} : DataW H := .agg [.lit (.int .u8 64), .lit (.int .i64 6)]
def laid_sluice_blocks_toLimit {H : Type} : DataW H := .agg [.lit (.int .u8 32), .lit (.int .i64 5)]
def laid_sluice_blocks_notToAdd {H : Type} : DataW H := .agg [.lit (.int .u8 0), .lit (.int .i64 4)]
def laid_sluice_blocks_plain {H : Type} : DataW H := .agg [.lit (.int .u8 0), .lit (.int .i64 7)]
def laid_sluice_blocks_packed {H : Type} : DataW H := .agg [.lit (.int .u8 128), .lit (.int .i64 7)]
def laid_sluice_blocks_fixed {H : Type} : DataW H := .agg [.agg [.lit (.string [112, 97, 116, 104]), .lit (.string [47])], .agg [.lit (.string [112, 97, 116, 104]), .lit (.string [47, 105, 110, 100, 101, 120])], .agg [.lit (.string [118, 101, 114, 98]), .lit (.string [103, 101, 116])], .agg [.lit (.string [118, 101, 114, 98]), .lit (.string [112, 117, 116])], .agg [.lit (.string [107, 105, 110, 100]), .lit (.string [116, 101, 120, 116])], .agg [.lit (.string [107, 105, 110, 100]), .lit (.string [98, 121, 116, 101, 115])], .agg [.lit (.string [104, 111, 115, 116]), .lit (.string [])], .agg [.lit (.string [108, 101, 110, 103, 116, 104]), .lit (.string [48])]]

/-- 'sluicekeep.Bounded': WHATEVER THE INPUT: true; the input reads as it did. -/
def boundedSpec : ChangeSpec := { name := "bounded", fn := fun _ => fun
  | [d1, d2] => { results := [.lit (.bool true)], args := [d1, d2] }
  | _ => none }
def boundedRow : OpenClaim := { program := "ytlhlmgfblbpdpaagreatdoor", sum := "dd6164ced08645c2bf88b4e2bbfba99e496c3d18ecd54a6e1ca9a10edf0bcb76", func := "sluice/sluicekeep.Bounded", spec := "bounded", inPlace := ["internal/bytealg.IndexByteString"], unfollowed := true, recurses := true, named := ["sluice/blocks.toLimit", "sluice/blocks.byNumber", "sluice/blocks.toAdd", "sluice/blocks.notToAdd", "sluice/blocks.fixed", "sluice/blocks.packed", "sluice/blocks.plain"], apart := false, laid := [("sluice/blocks.byNumber", laid_sluice_blocks_byNumber), ("sluice/blocks.toAdd", laid_sluice_blocks_toAdd), ("sluice/blocks.toLimit", laid_sluice_blocks_toLimit), ("sluice/blocks.notToAdd", laid_sluice_blocks_notToAdd), ("sluice/blocks.plain", laid_sluice_blocks_plain), ("sluice/blocks.packed", laid_sluice_blocks_packed), ("sluice/blocks.fixed", laid_sluice_blocks_fixed)] }
def BoundedSaid : Prop := boundedRow.holds Tryz.pinned (OpenSpec.ofChange boundedSpec)

/-- ITS FALSE NEIGHBOUR: 'it returns false'. Refute it at one input. -/
def boundedWrong : ChangeSpec := { name := "bounded", fn := fun _ => fun
  | [d1, d2] => { results := [.lit (.bool false)], args := [d1, d2] }
  | _ => none }
def BoundedWrongFalsely : Prop := boundedRow.holds Tryz.pinned (OpenSpec.ofChange boundedWrong)

/-- 'sluicekeep.Tuned': WHATEVER THE INPUT: true; the input reads as it did. -/
def tunedSpec : ChangeSpec := { name := "tuned", fn := fun _ => fun
  | [d1, d2] => { results := [.lit (.bool true)], args := [d1, d2] }
  | _ => none }
def tunedRow : OpenClaim := { program := "ytlhlmgfblbpdpaagreatdoor", sum := "dd6164ced08645c2bf88b4e2bbfba99e496c3d18ecd54a6e1ca9a10edf0bcb76", func := "sluice/sluicekeep.Tuned", spec := "tuned", inPlace := ["internal/bytealg.IndexByteString"], unfollowed := true, recurses := true, named := ["sluice/blocks.toLimit", "sluice/blocks.byNumber", "sluice/blocks.toAdd", "sluice/blocks.notToAdd", "sluice/blocks.fixed", "sluice/blocks.packed", "sluice/blocks.plain"], apart := false, laid := [("sluice/blocks.byNumber", laid_sluice_blocks_byNumber), ("sluice/blocks.toAdd", laid_sluice_blocks_toAdd), ("sluice/blocks.toLimit", laid_sluice_blocks_toLimit), ("sluice/blocks.notToAdd", laid_sluice_blocks_notToAdd), ("sluice/blocks.plain", laid_sluice_blocks_plain), ("sluice/blocks.packed", laid_sluice_blocks_packed), ("sluice/blocks.fixed", laid_sluice_blocks_fixed)] }
def TunedSaid : Prop := tunedRow.holds Tryz.pinned (OpenSpec.ofChange tunedSpec)

/-- ITS FALSE NEIGHBOUR: 'it returns false'. Refute it at one input. -/
def tunedWrong : ChangeSpec := { name := "tuned", fn := fun _ => fun
  | [d1, d2] => { results := [.lit (.bool false)], args := [d1, d2] }
  | _ => none }
def TunedWrongFalsely : Prop := tunedRow.holds Tryz.pinned (OpenSpec.ofChange tunedWrong)

/- THE SECOND FORM. 'bulk': how many values and letters a reading holds, each counted each time it is reached (what is shared counts as often as it is met; a slice's spare places count too). A statement '..UptoSaid' is the law's where the arguments, and the package variables that the reading takes, are together of bulk at most 1048576: NARROWER than '..Said'. Prove '..Said' where nothing that the law and all that it calls make is longer than what came in: it says more and counts as full. Else prove '..UptoSaid'. A law counts once. -/
mutual
def uptoBulk {H : Type} : DataW H → Nat
  | .lit (.string bytes) => bytes.length + 1
  | .lit _ => 1
  | .nil => 1
  | .ptr d => uptoBulk d + 1
  | .slice elems spare => uptoBulkAll elems + uptoBulkAll spare + 1
  | .agg parts => uptoBulkAll parts + 1
  | .iface _ d => uptoBulk d + 1
  | .map entries => uptoBulkEntries entries + 1
  | .held _ => 1
def uptoBulkAll {H : Type} : List (DataW H) → Nat
  | [] => 0
  | d :: r => uptoBulk d + uptoBulkAll r
def uptoBulkEntries {H : Type} : List (Lit × DataW H) → Nat
  | [] => 0
  | x :: r => uptoBulkEntry x + uptoBulkEntries r
def uptoBulkEntry {H : Type} : Lit × DataW H → Nat
  | (.string bytes, d) => bytes.length + uptoBulk d + 1
  | (_, d) => uptoBulk d + 1
 end
def uptoSmall : (H : Type) → List (DataW H) → Bool := fun _ ds => decide (uptoBulkAll ds ≤ 1048576)
def OpenSpec.upto (s : _root_.Go.ChangeSpec) : _root_.Go.OpenSpec := { _root_.Go.OpenSpec.ofChange s with cond := some uptoSmall }

/-- 'sluicekeep.Bounded', WHERE WHAT IT READS IS OF BULK AT MOST 1048576: true; the input reads as it did. -/
def boundedUptoRow : OpenClaim := { program := "ytlhlmgfblbpdpaagreatdoor", sum := "dd6164ced08645c2bf88b4e2bbfba99e496c3d18ecd54a6e1ca9a10edf0bcb76", func := "sluice/sluicekeep.Bounded", spec := "bounded", inPlace := ["internal/bytealg.IndexByteString"], unfollowed := true, recurses := true, named := ["sluice/blocks.toLimit", "sluice/blocks.byNumber", "sluice/blocks.toAdd", "sluice/blocks.notToAdd", "sluice/blocks.fixed", "sluice/blocks.packed", "sluice/blocks.plain"], apart := false, laid := [("sluice/blocks.byNumber", laid_sluice_blocks_byNumber), ("sluice/blocks.toAdd", laid_sluice_blocks_toAdd), ("sluice/blocks.toLimit", laid_sluice_blocks_toLimit), ("sluice/blocks.notToAdd", laid_sluice_blocks_notToAdd), ("sluice/blocks.plain", laid_sluice_blocks_plain), ("sluice/blocks.packed", laid_sluice_blocks_packed), ("sluice/blocks.fixed", laid_sluice_blocks_fixed)], narrowed := true }
def BoundedUptoSaid : Prop := boundedUptoRow.holds Tryz.pinned (OpenSpec.upto boundedSpec)

/-- 'sluicekeep.Tuned', WHERE WHAT IT READS IS OF BULK AT MOST 1048576: true; the input reads as it did. -/
def tunedUptoRow : OpenClaim := { program := "ytlhlmgfblbpdpaagreatdoor", sum := "dd6164ced08645c2bf88b4e2bbfba99e496c3d18ecd54a6e1ca9a10edf0bcb76", func := "sluice/sluicekeep.Tuned", spec := "tuned", inPlace := ["internal/bytealg.IndexByteString"], unfollowed := true, recurses := true, named := ["sluice/blocks.toLimit", "sluice/blocks.byNumber", "sluice/blocks.toAdd", "sluice/blocks.notToAdd", "sluice/blocks.fixed", "sluice/blocks.packed", "sluice/blocks.plain"], apart := false, laid := [("sluice/blocks.byNumber", laid_sluice_blocks_byNumber), ("sluice/blocks.toAdd", laid_sluice_blocks_toAdd), ("sluice/blocks.toLimit", laid_sluice_blocks_toLimit), ("sluice/blocks.notToAdd", laid_sluice_blocks_notToAdd), ("sluice/blocks.plain", laid_sluice_blocks_plain), ("sluice/blocks.packed", laid_sluice_blocks_packed), ("sluice/blocks.fixed", laid_sluice_blocks_fixed)], narrowed := true }
def TunedUptoSaid : Prop := tunedUptoRow.holds Tryz.pinned (OpenSpec.upto tunedSpec)

end Rows
end Go.Proofs.YtlhlmgfblbpdpaaGreatDoor
