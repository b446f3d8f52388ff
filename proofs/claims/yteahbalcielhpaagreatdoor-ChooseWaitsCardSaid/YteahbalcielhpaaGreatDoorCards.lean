/-
  DERIVED. GIVEN WITH THE SEED: THE CARDS: each row of YteahbalcielhpaaGreatDoorRows.lean that lists a variable, with what it lists TIED to the program's text (the seventh form; the later family's looks); each row that meets fmt, with fmt's text TOLD by the authors' own Lean function (tested against real Go, not proved from fmt's source: count such statements apart). THE CARD IS WHAT COUNTS. Prove the row's statement (the work); the ties are given (YteahbalcielhpaaGreatDoorTie.lean); close each card by the builder's one call (the guide's Derived/Test/ToyasCard.lean, 'card_holds'). Laid BY PROGRAM, IN A SANDBOX (cutbox-door.mjs). By AI agents, Wed Nov 11 2026. No macro, syntax, notation, axiom, sorry.
-/
import Derived.Test.YteahbalcielhpaaGreatDoorRows
import GoSem.ClaimSeven
namespace Go.Proofs.YteahbalcielhpaaGreatDoor
namespace Rows

/-- THE TIED CARD OF 'comptorlaw18.ChooseChains'. -/
def chooseChainsCard : Claim7 := { stood := { row := chooseChainsRow, standIns := [], harness := (true, "a03f898240252fee11c695ec72325d3c19b80c585129faac92af728adb868916"), looks := false }, kinds := [], alts := [], laidByText := true, laidKinds := [.data, .data], laidTests := true, laidLooks := .later }
def ChooseChainsCardSaid : Prop := Claim7.holds Tryz.pinned (.plain (OpenSpec.ofChange chooseChainsSpec)) chooseChainsCard

/-- THE TIED CARD OF 'comptorlaw18.ChooseKeeps'. -/
def chooseKeepsCard : Claim7 := { stood := { row := chooseKeepsRow, standIns := [], harness := (true, "a03f898240252fee11c695ec72325d3c19b80c585129faac92af728adb868916"), looks := false }, kinds := [], alts := [], laidByText := true, laidKinds := [.data, .data], laidTests := true, laidLooks := .later }
def ChooseKeepsCardSaid : Prop := Claim7.holds Tryz.pinned (.plain (OpenSpec.ofChange chooseKeepsSpec)) chooseKeepsCard

/-- THE TIED CARD OF 'comptorlaw18.ChooseWaits'. -/
def chooseWaitsCard : Claim7 := { stood := { row := chooseWaitsRow, standIns := [], harness := (true, "a03f898240252fee11c695ec72325d3c19b80c585129faac92af728adb868916"), looks := false }, kinds := [], alts := [], laidByText := true, laidKinds := [.data, .data], laidTests := true, laidLooks := .later }
def ChooseWaitsCardSaid : Prop := Claim7.holds Tryz.pinned (.plain (OpenSpec.ofChange chooseWaitsSpec)) chooseWaitsCard

/-- THE SECOND FORM's CARD OF 'comptorlaw18.ChooseChains'. -/
def chooseChainsUptoCard : Claim7 := { stood := { row := chooseChainsUptoRow, standIns := [], harness := (true, "a03f898240252fee11c695ec72325d3c19b80c585129faac92af728adb868916"), looks := false }, kinds := [], alts := [], laidByText := true, laidKinds := [.data, .data], laidTests := true, laidLooks := .later }
def ChooseChainsUptoCardSaid : Prop := Claim7.holds Tryz.pinned (.plain (OpenSpec.upto chooseChainsSpec)) chooseChainsUptoCard

/-- THE SECOND FORM's CARD OF 'comptorlaw18.ChooseKeeps'. -/
def chooseKeepsUptoCard : Claim7 := { stood := { row := chooseKeepsUptoRow, standIns := [], harness := (true, "a03f898240252fee11c695ec72325d3c19b80c585129faac92af728adb868916"), looks := false }, kinds := [], alts := [], laidByText := true, laidKinds := [.data, .data], laidTests := true, laidLooks := .later }
def ChooseKeepsUptoCardSaid : Prop := Claim7.holds Tryz.pinned (.plain (OpenSpec.upto chooseKeepsSpec)) chooseKeepsUptoCard

/-- THE SECOND FORM's CARD OF 'comptorlaw18.ChooseWaits'. -/
def chooseWaitsUptoCard : Claim7 := { stood := { row := chooseWaitsUptoRow, standIns := [], harness := (true, "a03f898240252fee11c695ec72325d3c19b80c585129faac92af728adb868916"), looks := false }, kinds := [], alts := [], laidByText := true, laidKinds := [.data, .data], laidTests := true, laidLooks := .later }
def ChooseWaitsUptoCardSaid : Prop := Claim7.holds Tryz.pinned (.plain (OpenSpec.upto chooseWaitsSpec)) chooseWaitsUptoCard
end Rows
end Go.Proofs.YteahbalcielhpaaGreatDoor
