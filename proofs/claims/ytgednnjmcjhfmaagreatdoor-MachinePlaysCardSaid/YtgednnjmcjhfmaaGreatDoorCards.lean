/-
  DERIVED. GIVEN WITH THE SEED: THE CARDS: each row of YtgednnjmcjhfmaaGreatDoorRows.lean that lists a variable, with what it lists TIED to the program's text (the seventh form; the later family's looks); each row that meets fmt, with fmt's text TOLD by the authors' own Lean function (tested against real Go, not proved from fmt's source: count such statements apart). THE CARD IS WHAT COUNTS. Prove the row's statement (the work); the ties are given (YtgednnjmcjhfmaaGreatDoorTie.lean); close each card by the builder's one call (the guide's Derived/Test/ToyasCard.lean, 'card_holds'). Laid BY PROGRAM, IN A SANDBOX (cutbox-door.mjs). By AI agents, Wed Nov 11 2026. No macro, syntax, notation, axiom, sorry.
-/
import Derived.Test.YtgednnjmcjhfmaaGreatDoorRows
import GoSem.ClaimSeven
namespace Go.Proofs.YtgednnjmcjhfmaaGreatDoor
namespace Rows

/-- THE TIED CARD OF 'comptorlaw10.MachinePlays'. -/
def machinePlaysCard : Claim7 := { stood := { row := machinePlaysRow, standIns := [], harness := (true, "5915dfb5f9157b68a5ba183cf138975ac88513c2b1004ba05fe1d36f220f8db6"), looks := false }, kinds := [], alts := [], laidByText := true, laidKinds := [.data], laidTests := true, laidLooks := .later }
def MachinePlaysCardSaid : Prop := Claim7.holds Tryz.pinned (.plain (OpenSpec.ofChange machinePlaysSpec)) machinePlaysCard

/-- THE SECOND FORM's CARD OF 'comptorlaw10.MachinePlays'. -/
def machinePlaysUptoCard : Claim7 := { stood := { row := machinePlaysUptoRow, standIns := [], harness := (true, "5915dfb5f9157b68a5ba183cf138975ac88513c2b1004ba05fe1d36f220f8db6"), looks := false }, kinds := [], alts := [], laidByText := true, laidKinds := [.data], laidTests := true, laidLooks := .later }
def MachinePlaysUptoCardSaid : Prop := Claim7.holds Tryz.pinned (.plain (OpenSpec.upto machinePlaysSpec)) machinePlaysUptoCard
end Rows
end Go.Proofs.YtgednnjmcjhfmaaGreatDoor
