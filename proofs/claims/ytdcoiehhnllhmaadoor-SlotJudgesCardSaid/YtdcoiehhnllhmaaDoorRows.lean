/-
  NARROWER THAN 'FOR EVERY INPUT', by the rows' own cells (each row's printed sentence says how): SlotLays: laid · SlotReads: laid · SlotJudges: laid · SlotTears: laid · SlotRots: laid · SlotVoids: laid · SlotOver: laid.
  DERIVED. THE GIVEN ROWS OF THIS SEAT. 7 by the template 'for every input the law returns true; each argument reads behind the call as it read before'; 0 by the template 'total and deterministic' (their statements: YtdcoiehhnllhmaaDoorTotals.lean).
  GIVEN WITH THE SEED: the statements are not yours to turn. If you find one false, say at which input.
  Laid BY PROGRAM, IN A SANDBOX (cutbox-rows.mjs): the forced cells as the released guide's own fill.sh prints them over the translation 19d508585c648cc6… (all of the seat's roots in one cut). By AI agents, Wed Nov 11 2026. No macro, syntax, notation, axiom, sorry.
-/
import Derived.Test.YtdcoiehhnllhmaaDoorChecked
import GoSem.Claim
import GoSem.ClaimJoined
import GoSem.ClaimMapViews
import Derived.JoinedTies
import Derived.KernelRfl
namespace Go.Proofs.YtdcoiehhnllhmaaDoor
/- THE CELL 'sum', in the pinned program and in every row, IS THE sha256 OF THE DUMP (.gsa) THAT YtdcoiehhnllhmaaDoorProg.lean LOADS. Nothing in Lean hashes anything: it is a label: what it is worth is what the hold of that sum in a sandbox is worth. -/
noncomputable def Tryd.pinned : Pinned := { name := "ytdcoiehhnllhmaadoor", sum := "19d508585c648cc6892eb05384ce8305c554ecc6df2f2a34a921ed50c261dcf7", checked := Tryd.checked }
namespace Rows
def none {H : Type} : Left H := { results := [], args := [] }

/- WHAT THE LISTED PACKAGE-LEVEL VARIABLES READ AS WHEN THE CALL BEGINS. Each datum BY PROGRAM (the guide's laid-datum.mjs) off the statement by which the dump's own 'gosem.cut.vars' lays the variable. In a bare row this is a premise. The card (YtdcoiehhnllhmaaDoorCards.lean) ties it to the program's text. -/
def laid_comptor_head_fields {H : Type} : DataW H := .agg [.agg [.lit (.int .i64 4), .lit (.int .u64 4294967295)], .agg [.lit (.int .i64 1), .lit (.int .u64 255)], .agg [.lit (.int .i64 1), .lit (.int .u64 255)], .agg [.lit (.int .i64 1), .lit (.int .u64 255)], .agg [.lit (.int .i64 1), .lit (.int .u64 0)], .agg [.lit (.int .i64 4), .lit (.int .u64 4294967295)], .agg [.lit (.int .i64 8), .lit (.int .u64 18446744073709551615)], .agg [.lit (.int .i64 8), .lit (.int .u64 72057594037927935)], .agg [.lit (.int .i64 8), .lit (.int .u64 72057594037927935)], .agg [.lit (.int .i64 8), .lit (.int .u64 72057594037927935)], .agg [.lit (.int .i64 8), .lit (.int .u64 72057594037927935)], .agg [.lit (.int .i64 8), .lit (.int .u64 72057594037927935)], .agg [.lit (.int .i64 8), .lit (.int .u64 72057594037927935)], .agg [.lit (.int .i64 8), .lit (.int .u64 72057594037927935)], .agg [.lit (.int .i64 8), .lit (.int .u64 72057594037927935)]]

/-- 'comptorlaw12.SlotLays': WHATEVER THE INPUT: true; the input reads as it did. -/
def slotLaysSpec : ChangeSpec := { name := "slotLays", fn := fun _ => fun
  | [d1, d2, d3] => { results := [.lit (.bool true)], args := [d1, d2, d3] }
  | _ => none }
def slotLaysRow : OpenClaim := { program := "ytdcoiehhnllhmaadoor", sum := "19d508585c648cc6892eb05384ce8305c554ecc6df2f2a34a921ed50c261dcf7", func := "comptor/comptorlaw12.SlotLays", spec := "slotLays", unfollowed := true, recurses := true, named := ["comptor/head.fields"], apart := false, laid := [("comptor/head.fields", laid_comptor_head_fields)] }
def SlotLaysSaid : Prop := slotLaysRow.holds Tryd.pinned (OpenSpec.ofChange slotLaysSpec)

/-- ITS FALSE NEIGHBOUR: 'it returns false'. Refute it at one input. -/
def slotLaysWrong : ChangeSpec := { name := "slotLays", fn := fun _ => fun
  | [d1, d2, d3] => { results := [.lit (.bool false)], args := [d1, d2, d3] }
  | _ => none }
def SlotLaysWrongFalsely : Prop := slotLaysRow.holds Tryd.pinned (OpenSpec.ofChange slotLaysWrong)

/-- 'comptorlaw12.SlotReads': WHATEVER THE INPUT: true; the input reads as it did. -/
def slotReadsSpec : ChangeSpec := { name := "slotReads", fn := fun _ => fun
  | [d] => { results := [.lit (.bool true)], args := [d] }
  | _ => none }
def slotReadsRow : OpenClaim := { program := "ytdcoiehhnllhmaadoor", sum := "19d508585c648cc6892eb05384ce8305c554ecc6df2f2a34a921ed50c261dcf7", func := "comptor/comptorlaw12.SlotReads", spec := "slotReads", unfollowed := true, recurses := true, named := ["comptor/head.fields"], apart := false, laid := [("comptor/head.fields", laid_comptor_head_fields)] }
def SlotReadsSaid : Prop := slotReadsRow.holds Tryd.pinned (OpenSpec.ofChange slotReadsSpec)

/-- ITS FALSE NEIGHBOUR: 'it returns false'. Refute it at one input. -/
def slotReadsWrong : ChangeSpec := { name := "slotReads", fn := fun _ => fun
  | [d] => { results := [.lit (.bool false)], args := [d] }
  | _ => none }
def SlotReadsWrongFalsely : Prop := slotReadsRow.holds Tryd.pinned (OpenSpec.ofChange slotReadsWrong)

/-- 'comptorlaw12.SlotJudges': WHATEVER THE INPUT: true; the input reads as it did. -/
def slotJudgesSpec : ChangeSpec := { name := "slotJudges", fn := fun _ => fun
  | [d1, d2, d3] => { results := [.lit (.bool true)], args := [d1, d2, d3] }
  | _ => none }
def slotJudgesRow : OpenClaim := { program := "ytdcoiehhnllhmaadoor", sum := "19d508585c648cc6892eb05384ce8305c554ecc6df2f2a34a921ed50c261dcf7", func := "comptor/comptorlaw12.SlotJudges", spec := "slotJudges", unfollowed := true, recurses := true, named := ["comptor/head.fields"], apart := false, laid := [("comptor/head.fields", laid_comptor_head_fields)] }
def SlotJudgesSaid : Prop := slotJudgesRow.holds Tryd.pinned (OpenSpec.ofChange slotJudgesSpec)

/-- ITS FALSE NEIGHBOUR: 'it returns false'. Refute it at one input. -/
def slotJudgesWrong : ChangeSpec := { name := "slotJudges", fn := fun _ => fun
  | [d1, d2, d3] => { results := [.lit (.bool false)], args := [d1, d2, d3] }
  | _ => none }
def SlotJudgesWrongFalsely : Prop := slotJudgesRow.holds Tryd.pinned (OpenSpec.ofChange slotJudgesWrong)

/-- 'comptorlaw12.SlotTears': WHATEVER THE INPUT: true; the input reads as it did. -/
def slotTearsSpec : ChangeSpec := { name := "slotTears", fn := fun _ => fun
  | [d1, d2, d3, d4, d5] => { results := [.lit (.bool true)], args := [d1, d2, d3, d4, d5] }
  | _ => none }
def slotTearsRow : OpenClaim := { program := "ytdcoiehhnllhmaadoor", sum := "19d508585c648cc6892eb05384ce8305c554ecc6df2f2a34a921ed50c261dcf7", func := "comptor/comptorlaw12.SlotTears", spec := "slotTears", unfollowed := true, recurses := true, named := ["comptor/head.fields"], apart := false, laid := [("comptor/head.fields", laid_comptor_head_fields)] }
def SlotTearsSaid : Prop := slotTearsRow.holds Tryd.pinned (OpenSpec.ofChange slotTearsSpec)

/-- ITS FALSE NEIGHBOUR: 'it returns false'. Refute it at one input. -/
def slotTearsWrong : ChangeSpec := { name := "slotTears", fn := fun _ => fun
  | [d1, d2, d3, d4, d5] => { results := [.lit (.bool false)], args := [d1, d2, d3, d4, d5] }
  | _ => none }
def SlotTearsWrongFalsely : Prop := slotTearsRow.holds Tryd.pinned (OpenSpec.ofChange slotTearsWrong)

/-- 'comptorlaw12.SlotRots': WHATEVER THE INPUT: true; the input reads as it did. -/
def slotRotsSpec : ChangeSpec := { name := "slotRots", fn := fun _ => fun
  | [d1, d2, d3, d4] => { results := [.lit (.bool true)], args := [d1, d2, d3, d4] }
  | _ => none }
def slotRotsRow : OpenClaim := { program := "ytdcoiehhnllhmaadoor", sum := "19d508585c648cc6892eb05384ce8305c554ecc6df2f2a34a921ed50c261dcf7", func := "comptor/comptorlaw12.SlotRots", spec := "slotRots", unfollowed := true, recurses := true, named := ["comptor/head.fields"], apart := false, laid := [("comptor/head.fields", laid_comptor_head_fields)] }
def SlotRotsSaid : Prop := slotRotsRow.holds Tryd.pinned (OpenSpec.ofChange slotRotsSpec)

/-- ITS FALSE NEIGHBOUR: 'it returns false'. Refute it at one input. -/
def slotRotsWrong : ChangeSpec := { name := "slotRots", fn := fun _ => fun
  | [d1, d2, d3, d4] => { results := [.lit (.bool false)], args := [d1, d2, d3, d4] }
  | _ => none }
def SlotRotsWrongFalsely : Prop := slotRotsRow.holds Tryd.pinned (OpenSpec.ofChange slotRotsWrong)

/-- 'comptorlaw12.SlotVoids': WHATEVER THE INPUT: true; the input reads as it did. -/
def slotVoidsSpec : ChangeSpec := { name := "slotVoids", fn := fun _ => fun
  | [d1, d2, d3] => { results := [.lit (.bool true)], args := [d1, d2, d3] }
  | _ => none }
def slotVoidsRow : OpenClaim := { program := "ytdcoiehhnllhmaadoor", sum := "19d508585c648cc6892eb05384ce8305c554ecc6df2f2a34a921ed50c261dcf7", func := "comptor/comptorlaw12.SlotVoids", spec := "slotVoids", unfollowed := true, recurses := true, named := ["comptor/head.fields"], apart := false, laid := [("comptor/head.fields", laid_comptor_head_fields)] }
def SlotVoidsSaid : Prop := slotVoidsRow.holds Tryd.pinned (OpenSpec.ofChange slotVoidsSpec)

/-- ITS FALSE NEIGHBOUR: 'it returns false'. Refute it at one input. -/
def slotVoidsWrong : ChangeSpec := { name := "slotVoids", fn := fun _ => fun
  | [d1, d2, d3] => { results := [.lit (.bool false)], args := [d1, d2, d3] }
  | _ => none }
def SlotVoidsWrongFalsely : Prop := slotVoidsRow.holds Tryd.pinned (OpenSpec.ofChange slotVoidsWrong)

/-- 'comptorlaw12.SlotOver': WHATEVER THE INPUT: true; the input reads as it did. -/
def slotOverSpec : ChangeSpec := { name := "slotOver", fn := fun _ => fun
  | [d1, d2, d3, d4] => { results := [.lit (.bool true)], args := [d1, d2, d3, d4] }
  | _ => none }
def slotOverRow : OpenClaim := { program := "ytdcoiehhnllhmaadoor", sum := "19d508585c648cc6892eb05384ce8305c554ecc6df2f2a34a921ed50c261dcf7", func := "comptor/comptorlaw12.SlotOver", spec := "slotOver", unfollowed := true, recurses := true, named := ["comptor/head.fields"], apart := false, laid := [("comptor/head.fields", laid_comptor_head_fields)] }
def SlotOverSaid : Prop := slotOverRow.holds Tryd.pinned (OpenSpec.ofChange slotOverSpec)

/-- ITS FALSE NEIGHBOUR: 'it returns false'. Refute it at one input. -/
def slotOverWrong : ChangeSpec := { name := "slotOver", fn := fun _ => fun
  | [d1, d2, d3, d4] => { results := [.lit (.bool false)], args := [d1, d2, d3, d4] }
  | _ => none }
def SlotOverWrongFalsely : Prop := slotOverRow.holds Tryd.pinned (OpenSpec.ofChange slotOverWrong)

/- THE SECOND FORM. 'bulk': how many values and letters a reading holds, each counted each time it is reached (what is shared counts as often as it is met; a slice's spare places count too). A statement '..UptoSaid' is the law's where the arguments, and the package variables that the reading takes, are together of bulk at most 1048576: NARROWER than '..Said'. Prove '..Said' where nothing that the law and all that it calls make is longer than what came in: it says more and counts as full. Else prove '..UptoSaid'. A law counts once. -/
mutual
def uptoBulk {H : Type} : DataW H → Nat
  | .lit (.string bytes) => bytes.length + 1
  | .lit _ => 1
  | .nil => 1
  | .ptr d => uptoBulk d + 1
  | .slice elems spare => uptoBulkAll elems + uptoBulkAll spare + 1
  | .agg parts => uptoBulkAll parts + 1
  | .iface _ d => uptoBulk d + 1
  | .map entries => uptoBulkEntries entries + 1
  | .held _ => 1
def uptoBulkAll {H : Type} : List (DataW H) → Nat
  | [] => 0
  | d :: r => uptoBulk d + uptoBulkAll r
def uptoBulkEntries {H : Type} : List (Lit × DataW H) → Nat
  | [] => 0
  | x :: r => uptoBulkEntry x + uptoBulkEntries r
def uptoBulkEntry {H : Type} : Lit × DataW H → Nat
  | (.string bytes, d) => bytes.length + uptoBulk d + 1
  | (_, d) => uptoBulk d + 1
 end
def uptoSmall : (H : Type) → List (DataW H) → Bool := fun _ ds => decide (uptoBulkAll ds ≤ 1048576)
def OpenSpec.upto (s : _root_.Go.ChangeSpec) : _root_.Go.OpenSpec := { _root_.Go.OpenSpec.ofChange s with cond := some uptoSmall }

/-- 'comptorlaw12.SlotLays', WHERE WHAT IT READS IS OF BULK AT MOST 1048576: true; the input reads as it did. -/
def slotLaysUptoRow : OpenClaim := { program := "ytdcoiehhnllhmaadoor", sum := "19d508585c648cc6892eb05384ce8305c554ecc6df2f2a34a921ed50c261dcf7", func := "comptor/comptorlaw12.SlotLays", spec := "slotLays", unfollowed := true, recurses := true, named := ["comptor/head.fields"], apart := false, laid := [("comptor/head.fields", laid_comptor_head_fields)], narrowed := true }
def SlotLaysUptoSaid : Prop := slotLaysUptoRow.holds Tryd.pinned (OpenSpec.upto slotLaysSpec)

/-- 'comptorlaw12.SlotReads', WHERE WHAT IT READS IS OF BULK AT MOST 1048576: true; the input reads as it did. -/
def slotReadsUptoRow : OpenClaim := { program := "ytdcoiehhnllhmaadoor", sum := "19d508585c648cc6892eb05384ce8305c554ecc6df2f2a34a921ed50c261dcf7", func := "comptor/comptorlaw12.SlotReads", spec := "slotReads", unfollowed := true, recurses := true, named := ["comptor/head.fields"], apart := false, laid := [("comptor/head.fields", laid_comptor_head_fields)], narrowed := true }
def SlotReadsUptoSaid : Prop := slotReadsUptoRow.holds Tryd.pinned (OpenSpec.upto slotReadsSpec)

/-- 'comptorlaw12.SlotJudges', WHERE WHAT IT READS IS OF BULK AT MOST 1048576: true; the input reads as it did. -/
def slotJudgesUptoRow : OpenClaim := { program := "ytdcoiehhnllhmaadoor", sum := "19d508585c648cc6892eb05384ce8305c554ecc6df2f2a34a921ed50c261dcf7", func := "comptor/comptorlaw12.SlotJudges", spec := "slotJudges", unfollowed := true, recurses := true, named := ["comptor/head.fields"], apart := false, laid := [("comptor/head.fields", laid_comptor_head_fields)], narrowed := true }
def SlotJudgesUptoSaid : Prop := slotJudgesUptoRow.holds Tryd.pinned (OpenSpec.upto slotJudgesSpec)

/-- 'comptorlaw12.SlotTears', WHERE WHAT IT READS IS OF BULK AT MOST 1048576: true; the input reads as it did. -/
def slotTearsUptoRow : OpenClaim := { program := "ytdcoiehhnllhmaadoor", sum := "19d508585c648cc6892eb05384ce8305c554ecc6df2f2a34a921ed50c261dcf7", func := "comptor/comptorlaw12.SlotTears", spec := "slotTears", unfollowed := true, recurses := true, named := ["comptor/head.fields"], apart := false, laid := [("comptor/head.fields", laid_comptor_head_fields)], narrowed := true }
def SlotTearsUptoSaid : Prop := slotTearsUptoRow.holds Tryd.pinned (OpenSpec.upto slotTearsSpec)

/-- 'comptorlaw12.SlotRots', WHERE WHAT IT READS IS OF BULK AT MOST 1048576: true; the input reads as it did. -/
def slotRotsUptoRow : OpenClaim := { program := "ytdcoiehhnllhmaadoor", sum := "19d508585c648cc6892eb05384ce8305c554ecc6df2f2a34a921ed50c261dcf7", func := "comptor/comptorlaw12.SlotRots", spec := "slotRots", unfollowed := true, recurses := true, named := ["comptor/head.fields"], apart := false, laid := [("comptor/head.fields", laid_comptor_head_fields)], narrowed := true }
def SlotRotsUptoSaid : Prop := slotRotsUptoRow.holds Tryd.pinned (OpenSpec.upto slotRotsSpec)

/-- 'comptorlaw12.SlotVoids', WHERE WHAT IT READS IS OF BULK AT MOST 1048576: true; the input reads as it did. -/
def slotVoidsUptoRow : OpenClaim := { program := "ytdcoiehhnllhmaadoor", sum := "19d508585c648cc6892eb05384ce8305c554ecc6df2f2a34a921ed50c261dcf7", func := "comptor/comptorlaw12.SlotVoids", spec := "slotVoids", unfollowed := true, recurses := true, named := ["comptor/head.fields"], apart := false, laid := [("comptor/head.fields", laid_comptor_head_fields)], narrowed := true }
def SlotVoidsUptoSaid : Prop := slotVoidsUptoRow.holds Tryd.pinned (OpenSpec.upto slotVoidsSpec)

/-- 'comptorlaw12.SlotOver', WHERE WHAT IT READS IS OF BULK AT MOST 1048576: true; the input reads as it did. -/
def slotOverUptoRow : OpenClaim := { program := "ytdcoiehhnllhmaadoor", sum := "19d508585c648cc6892eb05384ce8305c554ecc6df2f2a34a921ed50c261dcf7", func := "comptor/comptorlaw12.SlotOver", spec := "slotOver", unfollowed := true, recurses := true, named := ["comptor/head.fields"], apart := false, laid := [("comptor/head.fields", laid_comptor_head_fields)], narrowed := true }
def SlotOverUptoSaid : Prop := slotOverUptoRow.holds Tryd.pinned (OpenSpec.upto slotOverSpec)

end Rows
end Go.Proofs.YtdcoiehhnllhmaaDoor
