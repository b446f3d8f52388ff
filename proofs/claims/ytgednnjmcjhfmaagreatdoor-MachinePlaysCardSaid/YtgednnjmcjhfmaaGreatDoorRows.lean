/-
  NARROWER THAN 'FOR EVERY INPUT', by the rows' own cells (each row's printed sentence says how): MachinePlays: laid.
  DERIVED. THE GIVEN ROWS OF THIS SEAT. 1 by the template 'for every input the law returns true; each argument reads behind the call as it read before'; 0 by the template 'total and deterministic' (their statements: YtgednnjmcjhfmaaGreatDoorTotals.lean).
  GIVEN WITH THE SEED: the statements are not yours to turn. If you find one false, say at which input.
  Laid BY PROGRAM, IN A SANDBOX (cutbox-rows.mjs): the forced cells as the released guide's own fill.sh prints them over the translation c218118dbd1e3a28… (all of the seat's roots in one cut). By AI agents, Wed Nov 11 2026. No macro, syntax, notation, axiom, sorry.
-/
import Derived.Test.YtgednnjmcjhfmaaGreatDoorChecked
import GoSem.Claim
import GoSem.ClaimJoined
import GoSem.ClaimMapViews
import Derived.JoinedTies
import Derived.KernelRfl
namespace Go.Proofs.YtgednnjmcjhfmaaGreatDoor
/- THE CELL 'sum', in the pinned program and in every row, IS THE sha256 OF THE DUMP (.gsa) THAT YtgednnjmcjhfmaaGreatDoorProg.lean LOADS. Nothing in Lean hashes anything: it is a label: what it is worth is what the hold of that sum in a sandbox is worth. -/
noncomputable def Tryz.pinned : Pinned := { name := "ytgednnjmcjhfmaagreatdoor", sum := "c218118dbd1e3a287537757d929b744d953bdbaaa32176bb0d3c4e457451be61", checked := Tryz.checked }
namespace Rows
def none {H : Type} : Left H := { results := [], args := [] }

/- WHAT THE LISTED PACKAGE-LEVEL VARIABLES READ AS WHEN THE CALL BEGINS. Each datum BY PROGRAM (the guide's laid-datum.mjs) off the statement by which the dump's own 'gosem.cut.vars' lays the variable. In a bare row this is a premise. The card (YtgednnjmcjhfmaaGreatDoorCards.lean) ties it to the program's text. -/
def laid_comptor_head_fields {H : Type} : DataW H := .agg [.agg [.lit (.int .i64 4), .lit (.int .u64 4294967295)], .agg [.lit (.int .i64 1), .lit (.int .u64 255)], .agg [.lit (.int .i64 1), .lit (.int .u64 255)], .agg [.lit (.int .i64 1), .lit (.int .u64 255)], .agg [.lit (.int .i64 1), .lit (.int .u64 0)], .agg [.lit (.int .i64 4), .lit (.int .u64 4294967295)], .agg [.lit (.int .i64 8), .lit (.int .u64 18446744073709551615)], .agg [.lit (.int .i64 8), .lit (.int .u64 72057594037927935)], .agg [.lit (.int .i64 8), .lit (.int .u64 72057594037927935)], .agg [.lit (.int .i64 8), .lit (.int .u64 72057594037927935)], .agg [.lit (.int .i64 8), .lit (.int .u64 72057594037927935)], .agg [.lit (.int .i64 8), .lit (.int .u64 72057594037927935)], .agg [.lit (.int .i64 8), .lit (.int .u64 72057594037927935)], .agg [.lit (.int .i64 8), .lit (.int .u64 72057594037927935)], .agg [.lit (.int .i64 8), .lit (.int .u64 72057594037927935)]]

/-- 'comptorlaw10.MachinePlays': WHATEVER THE INPUT: true; the input reads as it did. -/
def machinePlaysSpec : ChangeSpec := { name := "machinePlays", fn := fun _ => fun
  | [d1, d2] => { results := [.lit (.bool true)], args := [d1, d2] }
  | _ => none }
def machinePlaysRow : OpenClaim := { program := "ytgednnjmcjhfmaagreatdoor", sum := "c218118dbd1e3a287537757d929b744d953bdbaaa32176bb0d3c4e457451be61", func := "comptor/comptorlaw10.MachinePlays", spec := "machinePlays", inPlace := ["internal/abi.NoEscape", "internal/bytealg.MakeNoZero"], unfollowed := true, recurses := true, named := ["comptor/head.fields"], apart := false, laid := [("comptor/head.fields", laid_comptor_head_fields)] }
def MachinePlaysSaid : Prop := machinePlaysRow.holds Tryz.pinned (OpenSpec.ofChange machinePlaysSpec)

/-- ITS FALSE NEIGHBOUR: 'it returns false'. Refute it at one input. -/
def machinePlaysWrong : ChangeSpec := { name := "machinePlays", fn := fun _ => fun
  | [d1, d2] => { results := [.lit (.bool false)], args := [d1, d2] }
  | _ => none }
def MachinePlaysWrongFalsely : Prop := machinePlaysRow.holds Tryz.pinned (OpenSpec.ofChange machinePlaysWrong)

/- THE SECOND FORM. 'bulk': how many values and letters a reading holds, each counted each time it is reached (what is shared counts as often as it is met; a slice's spare places count too). A statement '..UptoSaid' is the law's where the arguments, and the package variables that the reading takes, are together of bulk at most 1048576: NARROWER than '..Said'. Prove '..Said' where nothing that the law and all that it calls make is longer than what came in: it says more and counts as full. Else prove '..UptoSaid'. A law counts once. -/
mutual
def uptoBulk {H : Type} : DataW H → Nat
  | .lit (.string bytes) => bytes.length + 1
  | .lit _ => 1
  | .nil => 1
  | .ptr d => uptoBulk d + 1
  | .slice elems spare => uptoBulkAll elems + uptoBulkAll spare + 1
  | .agg parts => uptoBulkAll parts + 1
  | .iface _ d => uptoBulk d + 1
  | .map entries => uptoBulkEntries entries + 1
  | .held _ => 1
def uptoBulkAll {H : Type} : List (DataW H) → Nat
  | [] => 0
  | d :: r => uptoBulk d + uptoBulkAll r
def uptoBulkEntries {H : Type} : List (Lit × DataW H) → Nat
  | [] => 0
  | x :: r => uptoBulkEntry x + uptoBulkEntries r
def uptoBulkEntry {H : Type} : Lit × DataW H → Nat
  | (.string bytes, d) => bytes.length + uptoBulk d + 1
  | (_, d) => uptoBulk d + 1
 end
def uptoSmall : (H : Type) → List (DataW H) → Bool := fun _ ds => decide (uptoBulkAll ds ≤ 1048576)
def OpenSpec.upto (s : _root_.Go.ChangeSpec) : _root_.Go.OpenSpec := { _root_.Go.OpenSpec.ofChange s with cond := some uptoSmall }

/-- 'comptorlaw10.MachinePlays', WHERE WHAT IT READS IS OF BULK AT MOST 1048576: true; the input reads as it did. -/
def machinePlaysUptoRow : OpenClaim := { program := "ytgednnjmcjhfmaagreatdoor", sum := "c218118dbd1e3a287537757d929b744d953bdbaaa32176bb0d3c4e457451be61", func := "comptor/comptorlaw10.MachinePlays", spec := "machinePlays", inPlace := ["internal/abi.NoEscape", "internal/bytealg.MakeNoZero"], unfollowed := true, recurses := true, named := ["comptor/head.fields"], apart := false, laid := [("comptor/head.fields", laid_comptor_head_fields)], narrowed := true }
def MachinePlaysUptoSaid : Prop := machinePlaysUptoRow.holds Tryz.pinned (OpenSpec.upto machinePlaysSpec)

end Rows
end Go.Proofs.YtgednnjmcjhfmaaGreatDoor
