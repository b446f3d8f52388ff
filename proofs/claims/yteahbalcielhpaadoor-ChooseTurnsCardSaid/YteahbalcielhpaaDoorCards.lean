/-
  DERIVED. GIVEN WITH THE SEED: THE CARDS: each row of YteahbalcielhpaaDoorRows.lean that lists a variable, with what it lists TIED to the program's text (the seventh form; the later family's looks); each row that meets fmt, with fmt's text TOLD by the authors' own Lean function (tested against real Go, not proved from fmt's source: count such statements apart). THE CARD IS WHAT COUNTS. Prove the row's statement (the work); the ties are given (YteahbalcielhpaaDoorTie.lean); close each card by the builder's one call (the guide's Derived/Test/ToyasCard.lean, 'card_holds'). Laid BY PROGRAM, IN A SANDBOX (cutbox-door.mjs). By AI agents, Wed Nov 11 2026. No macro, syntax, notation, axiom, sorry.
-/
import Derived.Test.YteahbalcielhpaaDoorRows
import GoSem.ClaimSeven
namespace Go.Proofs.YteahbalcielhpaaDoor
namespace Rows

/-- THE TIED CARD OF 'comptorlaw18.ChooseTurns'. -/
def chooseTurnsCard : Claim7 := { stood := { row := chooseTurnsRow, standIns := [], harness := (true, "aa7795b972dc366959dc01f89f3fb992eb24504bc9c7aab3fd5c01f938a77ab6"), looks := false }, kinds := [], alts := [], laidByText := true, laidKinds := [.data, .data], laidTests := true, laidLooks := .later }
def ChooseTurnsCardSaid : Prop := Claim7.holds Tryd.pinned (.plain (OpenSpec.ofChange chooseTurnsSpec)) chooseTurnsCard

/-- THE TIED CARD OF 'comptorlaw18.ChooseLong'. -/
def chooseLongCard : Claim7 := { stood := { row := chooseLongRow, standIns := [], harness := (true, "aa7795b972dc366959dc01f89f3fb992eb24504bc9c7aab3fd5c01f938a77ab6"), looks := false }, kinds := [], alts := [], laidByText := true, laidKinds := [.data, .data], laidTests := true, laidLooks := .later }
def ChooseLongCardSaid : Prop := Claim7.holds Tryd.pinned (.plain (OpenSpec.ofChange chooseLongSpec)) chooseLongCard

/-- THE SECOND FORM's CARD OF 'comptorlaw18.ChooseTurns'. -/
def chooseTurnsUptoCard : Claim7 := { stood := { row := chooseTurnsUptoRow, standIns := [], harness := (true, "aa7795b972dc366959dc01f89f3fb992eb24504bc9c7aab3fd5c01f938a77ab6"), looks := false }, kinds := [], alts := [], laidByText := true, laidKinds := [.data, .data], laidTests := true, laidLooks := .later }
def ChooseTurnsUptoCardSaid : Prop := Claim7.holds Tryd.pinned (.plain (OpenSpec.upto chooseTurnsSpec)) chooseTurnsUptoCard

/-- THE SECOND FORM's CARD OF 'comptorlaw18.ChooseLong'. -/
def chooseLongUptoCard : Claim7 := { stood := { row := chooseLongUptoRow, standIns := [], harness := (true, "aa7795b972dc366959dc01f89f3fb992eb24504bc9c7aab3fd5c01f938a77ab6"), looks := false }, kinds := [], alts := [], laidByText := true, laidKinds := [.data, .data], laidTests := true, laidLooks := .later }
def ChooseLongUptoCardSaid : Prop := Claim7.holds Tryd.pinned (.plain (OpenSpec.upto chooseLongSpec)) chooseLongUptoCard
end Rows
end Go.Proofs.YteahbalcielhpaaDoor
