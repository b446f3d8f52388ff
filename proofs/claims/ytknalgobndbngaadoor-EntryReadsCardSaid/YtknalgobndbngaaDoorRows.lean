/-
  NARROWER THAN 'FOR EVERY INPUT', by the rows' own cells (each row's printed sentence says how): EntryPacks: laid · EntryReads: laid · EntryTurns: laid · EntryFollows: laid.
  DERIVED. THE GIVEN ROWS OF THIS SEAT. 4 by the template 'for every input the law returns true; each argument reads behind the call as it read before'; 0 by the template 'total and deterministic' (their statements: YtknalgobndbngaaDoorTotals.lean).
  GIVEN WITH THE SEED: the statements are not yours to turn. If you find one false, say at which input.
  Laid BY PROGRAM, IN A SANDBOX (cutbox-rows.mjs): the forced cells as the released guide's own fill.sh prints them over the translation 5f58fac2bbf9ae05… (all of the seat's roots in one cut). By AI agents, Wed Nov 11 2026. No macro, syntax, notation, axiom, sorry.
-/
import Derived.Test.YtknalgobndbngaaDoorChecked
import GoSem.Claim
import GoSem.ClaimJoined
import GoSem.ClaimMapViews
import Derived.JoinedTies
import Derived.KernelRfl
namespace Go.Proofs.YtknalgobndbngaaDoor
/- THE CELL 'sum', in the pinned program and in every row, IS THE sha256 OF THE DUMP (.gsa) THAT YtknalgobndbngaaDoorProg.lean LOADS. Nothing in Lean hashes anything: it is a label: what it is worth is what the hold of that sum in a sandbox is worth. -/
noncomputable def Tryd.pinned : Pinned := { name := "ytknalgobndbngaadoor", sum := "5f58fac2bbf9ae0587c2093e2d8a395fca6688e5b5e506cc810cbf7c3d0295f2", checked := Tryd.checked }
namespace Rows
def none {H : Type} : Left H := { results := [], args := [] }

/- WHAT THE LISTED PACKAGE-LEVEL VARIABLES READ AS WHEN THE CALL BEGINS. Each datum BY PROGRAM (the guide's laid-datum.mjs) off the statement by which the dump's own 'gosem.cut.vars' lays the variable. In a bare row this is a premise. The card (YtknalgobndbngaaDoorCards.lean) ties it to the program's text. -/
def laid_comptor_head_fields {H : Type} : DataW H := .agg [.agg [.lit (.int .i64 4), .lit (.int .u64 4294967295)], .agg [.lit (.int .i64 1), .lit (.int .u64 255)], .agg [.lit (.int .i64 1), .lit (.int .u64 255)], .agg [.lit (.int .i64 1), .lit (.int .u64 255)], .agg [.lit (.int .i64 1), .lit (.int .u64 0)], .agg [.lit (.int .i64 4), .lit (.int .u64 4294967295)], .agg [.lit (.int .i64 8), .lit (.int .u64 18446744073709551615)], .agg [.lit (.int .i64 8), .lit (.int .u64 72057594037927935)], .agg [.lit (.int .i64 8), .lit (.int .u64 72057594037927935)], .agg [.lit (.int .i64 8), .lit (.int .u64 72057594037927935)], .agg [.lit (.int .i64 8), .lit (.int .u64 72057594037927935)], .agg [.lit (.int .i64 8), .lit (.int .u64 72057594037927935)], .agg [.lit (.int .i64 8), .lit (.int .u64 72057594037927935)], .agg [.lit (.int .i64 8), .lit (.int .u64 72057594037927935)], .agg [.lit (.int .i64 8), .lit (.int .u64 72057594037927935)]]

/-- 'comptorlaw09.EntryPacks': WHATEVER THE INPUT: true; the input reads as it did. -/
def entryPacksSpec : ChangeSpec := { name := "entryPacks", fn := fun _ => fun
  | [d] => { results := [.lit (.bool true)], args := [d] }
  | _ => none }
def entryPacksRow : OpenClaim := { program := "ytknalgobndbngaadoor", sum := "5f58fac2bbf9ae0587c2093e2d8a395fca6688e5b5e506cc810cbf7c3d0295f2", func := "comptor/comptorlaw09.EntryPacks", spec := "entryPacks", named := ["comptor/head.fields"], apart := false, laid := [("comptor/head.fields", laid_comptor_head_fields)] }
def EntryPacksSaid : Prop := entryPacksRow.holds Tryd.pinned (OpenSpec.ofChange entryPacksSpec)

/-- ITS FALSE NEIGHBOUR: 'it returns false'. Refute it at one input. -/
def entryPacksWrong : ChangeSpec := { name := "entryPacks", fn := fun _ => fun
  | [d] => { results := [.lit (.bool false)], args := [d] }
  | _ => none }
def EntryPacksWrongFalsely : Prop := entryPacksRow.holds Tryd.pinned (OpenSpec.ofChange entryPacksWrong)

/-- 'comptorlaw09.EntryReads': WHATEVER THE INPUT: true; the input reads as it did. -/
def entryReadsSpec : ChangeSpec := { name := "entryReads", fn := fun _ => fun
  | [d] => { results := [.lit (.bool true)], args := [d] }
  | _ => none }
def entryReadsRow : OpenClaim := { program := "ytknalgobndbngaadoor", sum := "5f58fac2bbf9ae0587c2093e2d8a395fca6688e5b5e506cc810cbf7c3d0295f2", func := "comptor/comptorlaw09.EntryReads", spec := "entryReads", named := ["comptor/head.fields"], apart := false, laid := [("comptor/head.fields", laid_comptor_head_fields)] }
def EntryReadsSaid : Prop := entryReadsRow.holds Tryd.pinned (OpenSpec.ofChange entryReadsSpec)

/-- ITS FALSE NEIGHBOUR: 'it returns false'. Refute it at one input. -/
def entryReadsWrong : ChangeSpec := { name := "entryReads", fn := fun _ => fun
  | [d] => { results := [.lit (.bool false)], args := [d] }
  | _ => none }
def EntryReadsWrongFalsely : Prop := entryReadsRow.holds Tryd.pinned (OpenSpec.ofChange entryReadsWrong)

/-- 'comptorlaw09.EntryTurns': WHATEVER THE INPUT: true; the input reads as it did. -/
def entryTurnsSpec : ChangeSpec := { name := "entryTurns", fn := fun _ => fun
  | [d1, d2, d3] => { results := [.lit (.bool true)], args := [d1, d2, d3] }
  | _ => none }
def entryTurnsRow : OpenClaim := { program := "ytknalgobndbngaadoor", sum := "5f58fac2bbf9ae0587c2093e2d8a395fca6688e5b5e506cc810cbf7c3d0295f2", func := "comptor/comptorlaw09.EntryTurns", spec := "entryTurns", named := ["comptor/head.fields"], apart := false, laid := [("comptor/head.fields", laid_comptor_head_fields)] }
def EntryTurnsSaid : Prop := entryTurnsRow.holds Tryd.pinned (OpenSpec.ofChange entryTurnsSpec)

/-- ITS FALSE NEIGHBOUR: 'it returns false'. Refute it at one input. -/
def entryTurnsWrong : ChangeSpec := { name := "entryTurns", fn := fun _ => fun
  | [d1, d2, d3] => { results := [.lit (.bool false)], args := [d1, d2, d3] }
  | _ => none }
def EntryTurnsWrongFalsely : Prop := entryTurnsRow.holds Tryd.pinned (OpenSpec.ofChange entryTurnsWrong)

/-- 'comptorlaw09.EntryFollows': WHATEVER THE INPUT: true; the input reads as it did. -/
def entryFollowsSpec : ChangeSpec := { name := "entryFollows", fn := fun _ => fun
  | [d1, d2] => { results := [.lit (.bool true)], args := [d1, d2] }
  | _ => none }
def entryFollowsRow : OpenClaim := { program := "ytknalgobndbngaadoor", sum := "5f58fac2bbf9ae0587c2093e2d8a395fca6688e5b5e506cc810cbf7c3d0295f2", func := "comptor/comptorlaw09.EntryFollows", spec := "entryFollows", named := ["comptor/head.fields"], apart := false, laid := [("comptor/head.fields", laid_comptor_head_fields)] }
def EntryFollowsSaid : Prop := entryFollowsRow.holds Tryd.pinned (OpenSpec.ofChange entryFollowsSpec)

/-- ITS FALSE NEIGHBOUR: 'it returns false'. Refute it at one input. -/
def entryFollowsWrong : ChangeSpec := { name := "entryFollows", fn := fun _ => fun
  | [d1, d2] => { results := [.lit (.bool false)], args := [d1, d2] }
  | _ => none }
def EntryFollowsWrongFalsely : Prop := entryFollowsRow.holds Tryd.pinned (OpenSpec.ofChange entryFollowsWrong)

/- THE SECOND FORM. 'bulk': how many values and letters a reading holds, each counted each time it is reached (what is shared counts as often as it is met; a slice's spare places count too). A statement '..UptoSaid' is the law's where the arguments, and the package variables that the reading takes, are together of bulk at most 1048576: NARROWER than '..Said'. Prove '..Said' where nothing that the law and all that it calls make is longer than what came in: it says more and counts as full. Else prove '..UptoSaid'. A law counts once. -/
mutual
def uptoBulk {H : Type} : DataW H → Nat
  | .lit (.string bytes) => bytes.length + 1
  | .lit _ => 1
  | .nil => 1
  | .ptr d => uptoBulk d + 1
  | .slice elems spare => uptoBulkAll elems + uptoBulkAll spare + 1
  | .agg parts => uptoBulkAll parts + 1
  | .iface _ d => uptoBulk d + 1
  | .map entries => uptoBulkEntries entries + 1
  | .held _ => 1
def uptoBulkAll {H : Type} : List (DataW H) → Nat
  | [] => 0
  | d :: r => uptoBulk d + uptoBulkAll r
def uptoBulkEntries {H : Type} : List (Lit × DataW H) → Nat
  | [] => 0
  | x :: r => uptoBulkEntry x + uptoBulkEntries r
def uptoBulkEntry {H : Type} : Lit × DataW H → Nat
  | (.string bytes, d) => bytes.length + uptoBulk d + 1
  | (_, d) => uptoBulk d + 1
 end
def uptoSmall : (H : Type) → List (DataW H) → Bool := fun _ ds => decide (uptoBulkAll ds ≤ 1048576)
def OpenSpec.upto (s : _root_.Go.ChangeSpec) : _root_.Go.OpenSpec := { _root_.Go.OpenSpec.ofChange s with cond := some uptoSmall }

/-- 'comptorlaw09.EntryPacks', WHERE WHAT IT READS IS OF BULK AT MOST 1048576: true; the input reads as it did. -/
def entryPacksUptoRow : OpenClaim := { program := "ytknalgobndbngaadoor", sum := "5f58fac2bbf9ae0587c2093e2d8a395fca6688e5b5e506cc810cbf7c3d0295f2", func := "comptor/comptorlaw09.EntryPacks", spec := "entryPacks", named := ["comptor/head.fields"], apart := false, laid := [("comptor/head.fields", laid_comptor_head_fields)], narrowed := true }
def EntryPacksUptoSaid : Prop := entryPacksUptoRow.holds Tryd.pinned (OpenSpec.upto entryPacksSpec)

/-- 'comptorlaw09.EntryReads', WHERE WHAT IT READS IS OF BULK AT MOST 1048576: true; the input reads as it did. -/
def entryReadsUptoRow : OpenClaim := { program := "ytknalgobndbngaadoor", sum := "5f58fac2bbf9ae0587c2093e2d8a395fca6688e5b5e506cc810cbf7c3d0295f2", func := "comptor/comptorlaw09.EntryReads", spec := "entryReads", named := ["comptor/head.fields"], apart := false, laid := [("comptor/head.fields", laid_comptor_head_fields)], narrowed := true }
def EntryReadsUptoSaid : Prop := entryReadsUptoRow.holds Tryd.pinned (OpenSpec.upto entryReadsSpec)

/-- 'comptorlaw09.EntryTurns', WHERE WHAT IT READS IS OF BULK AT MOST 1048576: true; the input reads as it did. -/
def entryTurnsUptoRow : OpenClaim := { program := "ytknalgobndbngaadoor", sum := "5f58fac2bbf9ae0587c2093e2d8a395fca6688e5b5e506cc810cbf7c3d0295f2", func := "comptor/comptorlaw09.EntryTurns", spec := "entryTurns", named := ["comptor/head.fields"], apart := false, laid := [("comptor/head.fields", laid_comptor_head_fields)], narrowed := true }
def EntryTurnsUptoSaid : Prop := entryTurnsUptoRow.holds Tryd.pinned (OpenSpec.upto entryTurnsSpec)

/-- 'comptorlaw09.EntryFollows', WHERE WHAT IT READS IS OF BULK AT MOST 1048576: true; the input reads as it did. -/
def entryFollowsUptoRow : OpenClaim := { program := "ytknalgobndbngaadoor", sum := "5f58fac2bbf9ae0587c2093e2d8a395fca6688e5b5e506cc810cbf7c3d0295f2", func := "comptor/comptorlaw09.EntryFollows", spec := "entryFollows", named := ["comptor/head.fields"], apart := false, laid := [("comptor/head.fields", laid_comptor_head_fields)], narrowed := true }
def EntryFollowsUptoSaid : Prop := entryFollowsUptoRow.holds Tryd.pinned (OpenSpec.upto entryFollowsSpec)

end Rows
end Go.Proofs.YtknalgobndbngaaDoor
