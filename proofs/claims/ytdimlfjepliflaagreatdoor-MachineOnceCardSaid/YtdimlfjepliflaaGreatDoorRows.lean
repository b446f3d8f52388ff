/-
  NARROWER THAN 'FOR EVERY INPUT', by the rows' own cells (each row's printed sentence says how): MachinePlays: laid · MachineOnce: laid · MachineBack: laid · MachineNil: laid · MachineReads: laid.
  DERIVED. THE GIVEN ROWS OF THIS SEAT. 5 by the template 'for every input the law returns true; each argument reads behind the call as it read before'; 0 by the template 'total and deterministic' (their statements: YtdimlfjepliflaaGreatDoorTotals.lean).
  GIVEN WITH THE SEED: the statements are not yours to turn. If you find one false, say at which input.
  Laid BY PROGRAM, IN A SANDBOX (cutbox-rows.mjs): the forced cells as the released guide's own fill.sh prints them over the translation 3fec5ab0508cdaf4… (all of the seat's roots in one cut). By AI agents, Wed Nov 11 2026. No macro, syntax, notation, axiom, sorry.
-/
import Derived.Test.YtdimlfjepliflaaGreatDoorChecked
import GoSem.Claim
import GoSem.ClaimJoined
import GoSem.ClaimMapViews
import Derived.JoinedTies
import Derived.KernelRfl
namespace Go.Proofs.YtdimlfjepliflaaGreatDoor
/- THE CELL 'sum', in the pinned program and in every row, IS THE sha256 OF THE DUMP (.gsa) THAT YtdimlfjepliflaaGreatDoorProg.lean LOADS. Nothing in Lean hashes anything: it is a label: what it is worth is what the hold of that sum in a sandbox is worth. -/
noncomputable def Tryz.pinned : Pinned := { name := "ytdimlfjepliflaagreatdoor", sum := "3fec5ab0508cdaf4fb498fd7ac9e826a85a5591e98cafda4277153513645fadd", checked := Tryz.checked }
namespace Rows
def none {H : Type} : Left H := { results := [], args := [] }

/- WHAT THE LISTED PACKAGE-LEVEL VARIABLES READ AS WHEN THE CALL BEGINS. Each datum BY PROGRAM (the guide's laid-datum.mjs) off the statement by which the dump's own 'gosem.cut.vars' lays the variable. In a bare row this is a premise. The card (YtdimlfjepliflaaGreatDoorCards.lean) ties it to the program's text. -/
def laid_comptor_head_fields {H : Type} : DataW H := .agg [.agg [.lit (.int .i64 4), .lit (.int .u64 4294967295)], .agg [.lit (.int .i64 1), .lit (.int .u64 255)], .agg [.lit (.int .i64 1), .lit (.int .u64 255)], .agg [.lit (.int .i64 1), .lit (.int .u64 255)], .agg [.lit (.int .i64 1), .lit (.int .u64 0)], .agg [.lit (.int .i64 4), .lit (.int .u64 4294967295)], .agg [.lit (.int .i64 8), .lit (.int .u64 18446744073709551615)], .agg [.lit (.int .i64 8), .lit (.int .u64 72057594037927935)], .agg [.lit (.int .i64 8), .lit (.int .u64 72057594037927935)], .agg [.lit (.int .i64 8), .lit (.int .u64 72057594037927935)], .agg [.lit (.int .i64 8), .lit (.int .u64 72057594037927935)], .agg [.lit (.int .i64 8), .lit (.int .u64 72057594037927935)], .agg [.lit (.int .i64 8), .lit (.int .u64 72057594037927935)], .agg [.lit (.int .i64 8), .lit (.int .u64 72057594037927935)], .agg [.lit (.int .i64 8), .lit (.int .u64 72057594037927935)]]

/-- 'comptorlaw10.MachinePlays': WHATEVER THE INPUT: true; the input reads as it did. -/
def machinePlaysSpec : ChangeSpec := { name := "machinePlays", fn := fun _ => fun
  | [d1, d2] => { results := [.lit (.bool true)], args := [d1, d2] }
  | _ => none }
def machinePlaysRow : OpenClaim := { program := "ytdimlfjepliflaagreatdoor", sum := "3fec5ab0508cdaf4fb498fd7ac9e826a85a5591e98cafda4277153513645fadd", func := "comptor/comptorlaw10.MachinePlays", spec := "machinePlays", inPlace := ["internal/abi.NoEscape", "internal/bytealg.MakeNoZero"], unfollowed := true, recurses := true, named := ["comptor/head.fields"], apart := false, laid := [("comptor/head.fields", laid_comptor_head_fields)] }
def MachinePlaysSaid : Prop := machinePlaysRow.holds Tryz.pinned (OpenSpec.ofChange machinePlaysSpec)

/-- ITS FALSE NEIGHBOUR: 'it returns false'. Refute it at one input. -/
def machinePlaysWrong : ChangeSpec := { name := "machinePlays", fn := fun _ => fun
  | [d1, d2] => { results := [.lit (.bool false)], args := [d1, d2] }
  | _ => none }
def MachinePlaysWrongFalsely : Prop := machinePlaysRow.holds Tryz.pinned (OpenSpec.ofChange machinePlaysWrong)

/-- 'comptorlaw10.MachineOnce': WHATEVER THE INPUT: true; the input reads as it did. -/
def machineOnceSpec : ChangeSpec := { name := "machineOnce", fn := fun _ => fun
  | [d1, d2] => { results := [.lit (.bool true)], args := [d1, d2] }
  | _ => none }
def machineOnceRow : OpenClaim := { program := "ytdimlfjepliflaagreatdoor", sum := "3fec5ab0508cdaf4fb498fd7ac9e826a85a5591e98cafda4277153513645fadd", func := "comptor/comptorlaw10.MachineOnce", spec := "machineOnce", inPlace := ["internal/abi.NoEscape", "internal/bytealg.MakeNoZero"], unfollowed := true, recurses := true, named := ["comptor/head.fields"], apart := false, laid := [("comptor/head.fields", laid_comptor_head_fields)] }
def MachineOnceSaid : Prop := machineOnceRow.holds Tryz.pinned (OpenSpec.ofChange machineOnceSpec)

/-- ITS FALSE NEIGHBOUR: 'it returns false'. Refute it at one input. -/
def machineOnceWrong : ChangeSpec := { name := "machineOnce", fn := fun _ => fun
  | [d1, d2] => { results := [.lit (.bool false)], args := [d1, d2] }
  | _ => none }
def MachineOnceWrongFalsely : Prop := machineOnceRow.holds Tryz.pinned (OpenSpec.ofChange machineOnceWrong)

/-- 'comptorlaw10.MachineBack': WHATEVER THE INPUT: true; the input reads as it did. -/
def machineBackSpec : ChangeSpec := { name := "machineBack", fn := fun _ => fun
  | [d1, d2] => { results := [.lit (.bool true)], args := [d1, d2] }
  | _ => none }
def machineBackRow : OpenClaim := { program := "ytdimlfjepliflaagreatdoor", sum := "3fec5ab0508cdaf4fb498fd7ac9e826a85a5591e98cafda4277153513645fadd", func := "comptor/comptorlaw10.MachineBack", spec := "machineBack", inPlace := ["internal/abi.NoEscape", "internal/bytealg.MakeNoZero"], unfollowed := true, recurses := true, named := ["comptor/head.fields"], apart := false, laid := [("comptor/head.fields", laid_comptor_head_fields)] }
def MachineBackSaid : Prop := machineBackRow.holds Tryz.pinned (OpenSpec.ofChange machineBackSpec)

/-- ITS FALSE NEIGHBOUR: 'it returns false'. Refute it at one input. -/
def machineBackWrong : ChangeSpec := { name := "machineBack", fn := fun _ => fun
  | [d1, d2] => { results := [.lit (.bool false)], args := [d1, d2] }
  | _ => none }
def MachineBackWrongFalsely : Prop := machineBackRow.holds Tryz.pinned (OpenSpec.ofChange machineBackWrong)

/-- 'comptorlaw10.MachineNil': WHATEVER THE INPUT: true; the input reads as it did. -/
def machineNilSpec : ChangeSpec := { name := "machineNil", fn := fun _ => fun
  | [d] => { results := [.lit (.bool true)], args := [d] }
  | _ => none }
def machineNilRow : OpenClaim := { program := "ytdimlfjepliflaagreatdoor", sum := "3fec5ab0508cdaf4fb498fd7ac9e826a85a5591e98cafda4277153513645fadd", func := "comptor/comptorlaw10.MachineNil", spec := "machineNil", inPlace := ["internal/abi.NoEscape", "internal/bytealg.MakeNoZero"], unfollowed := true, recurses := true, named := ["comptor/head.fields"], apart := false, laid := [("comptor/head.fields", laid_comptor_head_fields)] }
def MachineNilSaid : Prop := machineNilRow.holds Tryz.pinned (OpenSpec.ofChange machineNilSpec)

/-- ITS FALSE NEIGHBOUR: 'it returns false'. Refute it at one input. -/
def machineNilWrong : ChangeSpec := { name := "machineNil", fn := fun _ => fun
  | [d] => { results := [.lit (.bool false)], args := [d] }
  | _ => none }
def MachineNilWrongFalsely : Prop := machineNilRow.holds Tryz.pinned (OpenSpec.ofChange machineNilWrong)

/-- 'comptorlaw10.MachineReads': WHATEVER THE INPUT: true; the input reads as it did. -/
def machineReadsSpec : ChangeSpec := { name := "machineReads", fn := fun _ => fun
  | [d1, d2, d3] => { results := [.lit (.bool true)], args := [d1, d2, d3] }
  | _ => none }
def machineReadsRow : OpenClaim := { program := "ytdimlfjepliflaagreatdoor", sum := "3fec5ab0508cdaf4fb498fd7ac9e826a85a5591e98cafda4277153513645fadd", func := "comptor/comptorlaw10.MachineReads", spec := "machineReads", inPlace := ["internal/abi.NoEscape", "internal/bytealg.MakeNoZero"], unfollowed := true, recurses := true, named := ["comptor/head.fields"], apart := false, laid := [("comptor/head.fields", laid_comptor_head_fields)] }
def MachineReadsSaid : Prop := machineReadsRow.holds Tryz.pinned (OpenSpec.ofChange machineReadsSpec)

/-- ITS FALSE NEIGHBOUR: 'it returns false'. Refute it at one input. -/
def machineReadsWrong : ChangeSpec := { name := "machineReads", fn := fun _ => fun
  | [d1, d2, d3] => { results := [.lit (.bool false)], args := [d1, d2, d3] }
  | _ => none }
def MachineReadsWrongFalsely : Prop := machineReadsRow.holds Tryz.pinned (OpenSpec.ofChange machineReadsWrong)

/- THE SECOND FORM. 'bulk': how many values and letters a reading holds, each counted each time it is reached (what is shared counts as often as it is met; a slice's spare places count too). A statement '..UptoSaid' is the law's where the arguments, and the package variables that the reading takes, are together of bulk at most 1048576: NARROWER than '..Said'. Prove '..Said' where nothing that the law and all that it calls make is longer than what came in: it says more and counts as full. Else prove '..UptoSaid'. A law counts once. -/
mutual
def uptoBulk {H : Type} : DataW H → Nat
  | .lit (.string bytes) => bytes.length + 1
  | .lit _ => 1
  | .nil => 1
  | .ptr d => uptoBulk d + 1
  | .slice elems spare => uptoBulkAll elems + uptoBulkAll spare + 1
  | .agg parts => uptoBulkAll parts + 1
  | .iface _ d => uptoBulk d + 1
  | .map entries => uptoBulkEntries entries + 1
  | .held _ => 1
def uptoBulkAll {H : Type} : List (DataW H) → Nat
  | [] => 0
  | d :: r => uptoBulk d + uptoBulkAll r
def uptoBulkEntries {H : Type} : List (Lit × DataW H) → Nat
  | [] => 0
  | x :: r => uptoBulkEntry x + uptoBulkEntries r
def uptoBulkEntry {H : Type} : Lit × DataW H → Nat
  | (.string bytes, d) => bytes.length + uptoBulk d + 1
  | (_, d) => uptoBulk d + 1
 end
def uptoSmall : (H : Type) → List (DataW H) → Bool := fun _ ds => decide (uptoBulkAll ds ≤ 1048576)
def OpenSpec.upto (s : _root_.Go.ChangeSpec) : _root_.Go.OpenSpec := { _root_.Go.OpenSpec.ofChange s with cond := some uptoSmall }

/-- 'comptorlaw10.MachinePlays', WHERE WHAT IT READS IS OF BULK AT MOST 1048576: true; the input reads as it did. -/
def machinePlaysUptoRow : OpenClaim := { program := "ytdimlfjepliflaagreatdoor", sum := "3fec5ab0508cdaf4fb498fd7ac9e826a85a5591e98cafda4277153513645fadd", func := "comptor/comptorlaw10.MachinePlays", spec := "machinePlays", inPlace := ["internal/abi.NoEscape", "internal/bytealg.MakeNoZero"], unfollowed := true, recurses := true, named := ["comptor/head.fields"], apart := false, laid := [("comptor/head.fields", laid_comptor_head_fields)], narrowed := true }
def MachinePlaysUptoSaid : Prop := machinePlaysUptoRow.holds Tryz.pinned (OpenSpec.upto machinePlaysSpec)

/-- 'comptorlaw10.MachineOnce', WHERE WHAT IT READS IS OF BULK AT MOST 1048576: true; the input reads as it did. -/
def machineOnceUptoRow : OpenClaim := { program := "ytdimlfjepliflaagreatdoor", sum := "3fec5ab0508cdaf4fb498fd7ac9e826a85a5591e98cafda4277153513645fadd", func := "comptor/comptorlaw10.MachineOnce", spec := "machineOnce", inPlace := ["internal/abi.NoEscape", "internal/bytealg.MakeNoZero"], unfollowed := true, recurses := true, named := ["comptor/head.fields"], apart := false, laid := [("comptor/head.fields", laid_comptor_head_fields)], narrowed := true }
def MachineOnceUptoSaid : Prop := machineOnceUptoRow.holds Tryz.pinned (OpenSpec.upto machineOnceSpec)

/-- 'comptorlaw10.MachineBack', WHERE WHAT IT READS IS OF BULK AT MOST 1048576: true; the input reads as it did. -/
def machineBackUptoRow : OpenClaim := { program := "ytdimlfjepliflaagreatdoor", sum := "3fec5ab0508cdaf4fb498fd7ac9e826a85a5591e98cafda4277153513645fadd", func := "comptor/comptorlaw10.MachineBack", spec := "machineBack", inPlace := ["internal/abi.NoEscape", "internal/bytealg.MakeNoZero"], unfollowed := true, recurses := true, named := ["comptor/head.fields"], apart := false, laid := [("comptor/head.fields", laid_comptor_head_fields)], narrowed := true }
def MachineBackUptoSaid : Prop := machineBackUptoRow.holds Tryz.pinned (OpenSpec.upto machineBackSpec)

/-- 'comptorlaw10.MachineNil', WHERE WHAT IT READS IS OF BULK AT MOST 1048576: true; the input reads as it did. -/
def machineNilUptoRow : OpenClaim := { program := "ytdimlfjepliflaagreatdoor", sum := "3fec5ab0508cdaf4fb498fd7ac9e826a85a5591e98cafda4277153513645fadd", func := "comptor/comptorlaw10.MachineNil", spec := "machineNil", inPlace := ["internal/abi.NoEscape", "internal/bytealg.MakeNoZero"], unfollowed := true, recurses := true, named := ["comptor/head.fields"], apart := false, laid := [("comptor/head.fields", laid_comptor_head_fields)], narrowed := true }
def MachineNilUptoSaid : Prop := machineNilUptoRow.holds Tryz.pinned (OpenSpec.upto machineNilSpec)

/-- 'comptorlaw10.MachineReads', WHERE WHAT IT READS IS OF BULK AT MOST 1048576: true; the input reads as it did. -/
def machineReadsUptoRow : OpenClaim := { program := "ytdimlfjepliflaagreatdoor", sum := "3fec5ab0508cdaf4fb498fd7ac9e826a85a5591e98cafda4277153513645fadd", func := "comptor/comptorlaw10.MachineReads", spec := "machineReads", inPlace := ["internal/abi.NoEscape", "internal/bytealg.MakeNoZero"], unfollowed := true, recurses := true, named := ["comptor/head.fields"], apart := false, laid := [("comptor/head.fields", laid_comptor_head_fields)], narrowed := true }
def MachineReadsUptoSaid : Prop := machineReadsUptoRow.holds Tryz.pinned (OpenSpec.upto machineReadsSpec)

end Rows
end Go.Proofs.YtdimlfjepliflaaGreatDoor
