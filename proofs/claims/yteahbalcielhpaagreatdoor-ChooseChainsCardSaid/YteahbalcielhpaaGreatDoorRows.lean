/-
  NARROWER THAN 'FOR EVERY INPUT', by the rows' own cells (each row's printed sentence says how): ChooseChains: laid · ChooseKeeps: laid · ChooseWaits: laid.
  DERIVED. THE GIVEN ROWS OF THIS SEAT. 3 by the template 'for every input the law returns true; each argument reads behind the call as it read before'; 0 by the template 'total and deterministic' (their statements: YteahbalcielhpaaGreatDoorTotals.lean).
  GIVEN WITH THE SEED: the statements are not yours to turn. If you find one false, say at which input.
  Laid BY PROGRAM, IN A SANDBOX (cutbox-rows.mjs): the forced cells as the released guide's own fill.sh prints them over the translation 4ef028c2233d87db… (all of the seat's roots in one cut). By AI agents, Wed Nov 11 2026. No macro, syntax, notation, axiom, sorry.
-/
import Derived.Test.YteahbalcielhpaaGreatDoorChecked
import GoSem.Claim
import GoSem.ClaimJoined
import GoSem.ClaimMapViews
import Derived.JoinedTies
import Derived.KernelRfl
namespace Go.Proofs.YteahbalcielhpaaGreatDoor
/- THE CELL 'sum', in the pinned program and in every row, IS THE sha256 OF THE DUMP (.gsa) THAT YteahbalcielhpaaGreatDoorProg.lean LOADS. Nothing in Lean hashes anything: it is a label: what it is worth is what the hold of that sum in a sandbox is worth. -/
noncomputable def Tryz.pinned : Pinned := { name := "yteahbalcielhpaagreatdoor", sum := "4ef028c2233d87dbb339f537e5fcea7682e010922909c0af3a4648d197d57398", checked := Tryz.checked }
namespace Rows
def none {H : Type} : Left H := { results := [], args := [] }

/- WHAT THE LISTED PACKAGE-LEVEL VARIABLES READ AS WHEN THE CALL BEGINS. Each datum BY PROGRAM (the guide's laid-datum.mjs) off the statement by which the dump's own 'gosem.cut.vars' lays the variable. In a bare row this is a premise. The card (YteahbalcielhpaaGreatDoorCards.lean) ties it to the program's text. -/
def laid_comptor_head_fields {H : Type} : DataW H := .agg [.agg [.lit (.int .i64 4), .lit (.int .u64 4294967295)], .agg [.lit (.int .i64 1), .lit (.int .u64 255)], .agg [.lit (.int .i64 1), .lit (.int .u64 255)], .agg [.lit (.int .i64 1), .lit (.int .u64 255)], .agg [.lit (.int .i64 1), .lit (.int .u64 0)], .agg [.lit (.int .i64 4), .lit (.int .u64 4294967295)], .agg [.lit (.int .i64 8), .lit (.int .u64 18446744073709551615)], .agg [.lit (.int .i64 8), .lit (.int .u64 72057594037927935)], .agg [.lit (.int .i64 8), .lit (.int .u64 72057594037927935)], .agg [.lit (.int .i64 8), .lit (.int .u64 72057594037927935)], .agg [.lit (.int .i64 8), .lit (.int .u64 72057594037927935)], .agg [.lit (.int .i64 8), .lit (.int .u64 72057594037927935)], .agg [.lit (.int .i64 8), .lit (.int .u64 72057594037927935)], .agg [.lit (.int .i64 8), .lit (.int .u64 72057594037927935)], .agg [.lit (.int .i64 8), .lit (.int .u64 72057594037927935)]]
def laid_comptor_msg_fields {H : Type} : DataW H := .agg [.lit (.string []), .lit (.string [99, 115, 114, 111, 66]), .lit (.string [118, 109, 69]), .lit (.string [118, 112]), .lit (.string [118, 112, 99, 115, 114, 66]), .lit (.string [118, 109]), .lit (.string [118]), .lit (.string [118, 108, 109, 67, 73]), .lit (.string [118, 109, 67, 76]), .lit (.string [118]), .lit (.string [112]), .lit (.string [69]), .lit (.string []), .lit (.string [122, 67, 83]), .lit (.string [120, 67]), .lit (.string [120, 67, 66]), .lit (.string [118, 112, 99, 115, 114])]

/-- 'comptorlaw18.ChooseChains': WHATEVER THE INPUT: true; the input reads as it did. -/
def chooseChainsSpec : ChangeSpec := { name := "chooseChains", fn := fun _ => fun
  | [d1, d2] => { results := [.lit (.bool true)], args := [d1, d2] }
  | _ => none }
def chooseChainsRow : OpenClaim := { program := "yteahbalcielhpaagreatdoor", sum := "4ef028c2233d87dbb339f537e5fcea7682e010922909c0af3a4648d197d57398", func := "comptor/comptorlaw18.ChooseChains", spec := "chooseChains", inPlace := ["internal/bytealg.IndexByteString", "internal/bytealg.IndexString"], unfollowed := true, recurses := true, named := ["comptor/head.fields", "comptor/msg.fields", "internal/bytealg.MaxLen"], apart := false, laid := [("comptor/head.fields", laid_comptor_head_fields), ("comptor/msg.fields", laid_comptor_msg_fields)] }
def ChooseChainsSaid : Prop := chooseChainsRow.holds Tryz.pinned (OpenSpec.ofChange chooseChainsSpec)

/-- ITS FALSE NEIGHBOUR: 'it returns false'. Refute it at one input. -/
def chooseChainsWrong : ChangeSpec := { name := "chooseChains", fn := fun _ => fun
  | [d1, d2] => { results := [.lit (.bool false)], args := [d1, d2] }
  | _ => none }
def ChooseChainsWrongFalsely : Prop := chooseChainsRow.holds Tryz.pinned (OpenSpec.ofChange chooseChainsWrong)

/-- 'comptorlaw18.ChooseKeeps': WHATEVER THE INPUT: true; the input reads as it did. -/
def chooseKeepsSpec : ChangeSpec := { name := "chooseKeeps", fn := fun _ => fun
  | [d1, d2, d3] => { results := [.lit (.bool true)], args := [d1, d2, d3] }
  | _ => none }
def chooseKeepsRow : OpenClaim := { program := "yteahbalcielhpaagreatdoor", sum := "4ef028c2233d87dbb339f537e5fcea7682e010922909c0af3a4648d197d57398", func := "comptor/comptorlaw18.ChooseKeeps", spec := "chooseKeeps", inPlace := ["internal/bytealg.IndexByteString", "internal/bytealg.IndexString"], unfollowed := true, recurses := true, named := ["comptor/head.fields", "comptor/msg.fields", "internal/bytealg.MaxLen"], apart := false, laid := [("comptor/head.fields", laid_comptor_head_fields), ("comptor/msg.fields", laid_comptor_msg_fields)] }
def ChooseKeepsSaid : Prop := chooseKeepsRow.holds Tryz.pinned (OpenSpec.ofChange chooseKeepsSpec)

/-- ITS FALSE NEIGHBOUR: 'it returns false'. Refute it at one input. -/
def chooseKeepsWrong : ChangeSpec := { name := "chooseKeeps", fn := fun _ => fun
  | [d1, d2, d3] => { results := [.lit (.bool false)], args := [d1, d2, d3] }
  | _ => none }
def ChooseKeepsWrongFalsely : Prop := chooseKeepsRow.holds Tryz.pinned (OpenSpec.ofChange chooseKeepsWrong)

/-- 'comptorlaw18.ChooseWaits': WHATEVER THE INPUT: true; the input reads as it did. -/
def chooseWaitsSpec : ChangeSpec := { name := "chooseWaits", fn := fun _ => fun
  | [d1, d2] => { results := [.lit (.bool true)], args := [d1, d2] }
  | _ => none }
def chooseWaitsRow : OpenClaim := { program := "yteahbalcielhpaagreatdoor", sum := "4ef028c2233d87dbb339f537e5fcea7682e010922909c0af3a4648d197d57398", func := "comptor/comptorlaw18.ChooseWaits", spec := "chooseWaits", inPlace := ["internal/bytealg.IndexByteString", "internal/bytealg.IndexString"], unfollowed := true, recurses := true, named := ["comptor/head.fields", "comptor/msg.fields", "internal/bytealg.MaxLen"], apart := false, laid := [("comptor/head.fields", laid_comptor_head_fields), ("comptor/msg.fields", laid_comptor_msg_fields)] }
def ChooseWaitsSaid : Prop := chooseWaitsRow.holds Tryz.pinned (OpenSpec.ofChange chooseWaitsSpec)

/-- ITS FALSE NEIGHBOUR: 'it returns false'. Refute it at one input. -/
def chooseWaitsWrong : ChangeSpec := { name := "chooseWaits", fn := fun _ => fun
  | [d1, d2] => { results := [.lit (.bool false)], args := [d1, d2] }
  | _ => none }
def ChooseWaitsWrongFalsely : Prop := chooseWaitsRow.holds Tryz.pinned (OpenSpec.ofChange chooseWaitsWrong)

/- THE SECOND FORM. 'bulk': how many values and letters a reading holds, each counted each time it is reached (what is shared counts as often as it is met; a slice's spare places count too). A statement '..UptoSaid' is the law's where the arguments, and the package variables that the reading takes, are together of bulk at most 1048576: NARROWER than '..Said'. Prove '..Said' where nothing that the law and all that it calls make is longer than what came in: it says more and counts as full. Else prove '..UptoSaid'. A law counts once. -/
mutual
def uptoBulk {H : Type} : DataW H → Nat
  | .lit (.string bytes) => bytes.length + 1
  | .lit _ => 1
  | .nil => 1
  | .ptr d => uptoBulk d + 1
  | .slice elems spare => uptoBulkAll elems + uptoBulkAll spare + 1
  | .agg parts => uptoBulkAll parts + 1
  | .iface _ d => uptoBulk d + 1
  | .map entries => uptoBulkEntries entries + 1
  | .held _ => 1
def uptoBulkAll {H : Type} : List (DataW H) → Nat
  | [] => 0
  | d :: r => uptoBulk d + uptoBulkAll r
def uptoBulkEntries {H : Type} : List (Lit × DataW H) → Nat
  | [] => 0
  | x :: r => uptoBulkEntry x + uptoBulkEntries r
def uptoBulkEntry {H : Type} : Lit × DataW H → Nat
  | (.string bytes, d) => bytes.length + uptoBulk d + 1
  | (_, d) => uptoBulk d + 1
 end
def uptoSmall : (H : Type) → List (DataW H) → Bool := fun _ ds => decide (uptoBulkAll ds ≤ 1048576)
def OpenSpec.upto (s : _root_.Go.ChangeSpec) : _root_.Go.OpenSpec := { _root_.Go.OpenSpec.ofChange s with cond := some uptoSmall }

/-- 'comptorlaw18.ChooseChains', WHERE WHAT IT READS IS OF BULK AT MOST 1048576: true; the input reads as it did. -/
def chooseChainsUptoRow : OpenClaim := { program := "yteahbalcielhpaagreatdoor", sum := "4ef028c2233d87dbb339f537e5fcea7682e010922909c0af3a4648d197d57398", func := "comptor/comptorlaw18.ChooseChains", spec := "chooseChains", inPlace := ["internal/bytealg.IndexByteString", "internal/bytealg.IndexString"], unfollowed := true, recurses := true, named := ["comptor/head.fields", "comptor/msg.fields", "internal/bytealg.MaxLen"], apart := false, laid := [("comptor/head.fields", laid_comptor_head_fields), ("comptor/msg.fields", laid_comptor_msg_fields)], narrowed := true }
def ChooseChainsUptoSaid : Prop := chooseChainsUptoRow.holds Tryz.pinned (OpenSpec.upto chooseChainsSpec)

/-- 'comptorlaw18.ChooseKeeps', WHERE WHAT IT READS IS OF BULK AT MOST 1048576: true; the input reads as it did. -/
def chooseKeepsUptoRow : OpenClaim := { program := "yteahbalcielhpaagreatdoor", sum := "4ef028c2233d87dbb339f537e5fcea7682e010922909c0af3a4648d197d57398", func := "comptor/comptorlaw18.ChooseKeeps", spec := "chooseKeeps", inPlace := ["internal/bytealg.IndexByteString", "internal/bytealg.IndexString"], unfollowed := true, recurses := true, named := ["comptor/head.fields", "comptor/msg.fields", "internal/bytealg.MaxLen"], apart := false, laid := [("comptor/head.fields", laid_comptor_head_fields), ("comptor/msg.fields", laid_comptor_msg_fields)], narrowed := true }
def ChooseKeepsUptoSaid : Prop := chooseKeepsUptoRow.holds Tryz.pinned (OpenSpec.upto chooseKeepsSpec)

/-- 'comptorlaw18.ChooseWaits', WHERE WHAT IT READS IS OF BULK AT MOST 1048576: true; the input reads as it did. -/
def chooseWaitsUptoRow : OpenClaim := { program := "yteahbalcielhpaagreatdoor", sum := "4ef028c2233d87dbb339f537e5fcea7682e010922909c0af3a4648d197d57398", func := "comptor/comptorlaw18.ChooseWaits", spec := "chooseWaits", inPlace := ["internal/bytealg.IndexByteString", "internal/bytealg.IndexString"], unfollowed := true, recurses := true, named := ["comptor/head.fields", "comptor/msg.fields", "internal/bytealg.MaxLen"], apart := false, laid := [("comptor/head.fields", laid_comptor_head_fields), ("comptor/msg.fields", laid_comptor_msg_fields)], narrowed := true }
def ChooseWaitsUptoSaid : Prop := chooseWaitsUptoRow.holds Tryz.pinned (OpenSpec.upto chooseWaitsSpec)

end Rows
end Go.Proofs.YteahbalcielhpaaGreatDoor
