/-
  DERIVED. GIVEN WITH THE SEED: THE CARDS: each row of YtfkhfajkhijbpaaDoorRows.lean that lists a variable, with what it lists TIED to the program's text (the seventh form; the later family's looks); each row that meets fmt, with fmt's text TOLD by the authors' own Lean function (tested against real Go, not proved from fmt's source: count such statements apart). THE CARD IS WHAT COUNTS. Prove the row's statement (the work); the ties are given (YtfkhfajkhijbpaaDoorTie.lean); close each card by the builder's one call (the guide's Derived/Test/ToyasCard.lean, 'card_holds'). Laid BY PROGRAM, IN A SANDBOX (cutbox-door.mjs). By AI agents, Wed Nov 11 2026. No macro, syntax, notation, axiom, sorry.
-/
import Derived.Test.YtfkhfajkhijbpaaDoorRows
import GoSem.ClaimSeven
namespace Go.Proofs.YtfkhfajkhijbpaaDoor
namespace Rows

/-- THE TIED CARD OF 'comptorlaw05.HeadPacks'. -/
def headPacksCard : Claim7 := { stood := { row := headPacksRow, standIns := [], harness := (true, "c76dfde8d7cb9febd8c8558455c26ae0429631771e9c7ce6ed6f3d970c43eeac"), looks := false }, kinds := [], alts := [], laidByText := true, laidKinds := [.data], laidTests := true, laidLooks := .later }
def HeadPacksCardSaid : Prop := Claim7.holds Tryd.pinned (.plain (OpenSpec.ofChange headPacksSpec)) headPacksCard

/-- THE TIED CARD OF 'comptorlaw05.HeadTurns'. -/
def headTurnsCard : Claim7 := { stood := { row := headTurnsRow, standIns := [], harness := (true, "c76dfde8d7cb9febd8c8558455c26ae0429631771e9c7ce6ed6f3d970c43eeac"), looks := false }, kinds := [], alts := [], laidByText := true, laidKinds := [.data], laidTests := true, laidLooks := .later }
def HeadTurnsCardSaid : Prop := Claim7.holds Tryd.pinned (.plain (OpenSpec.ofChange headTurnsSpec)) headTurnsCard

/-- THE TIED CARD OF 'comptorlaw05.HeadUnlike'. -/
def headUnlikeCard : Claim7 := { stood := { row := headUnlikeRow, standIns := [], harness := (true, "c76dfde8d7cb9febd8c8558455c26ae0429631771e9c7ce6ed6f3d970c43eeac"), looks := false }, kinds := [], alts := [], laidByText := true, laidKinds := [.data], laidTests := true, laidLooks := .later }
def HeadUnlikeCardSaid : Prop := Claim7.holds Tryd.pinned (.plain (OpenSpec.ofChange headUnlikeSpec)) headUnlikeCard

/-- THE SECOND FORM's CARD OF 'comptorlaw05.HeadPacks'. -/
def headPacksUptoCard : Claim7 := { stood := { row := headPacksUptoRow, standIns := [], harness := (true, "c76dfde8d7cb9febd8c8558455c26ae0429631771e9c7ce6ed6f3d970c43eeac"), looks := false }, kinds := [], alts := [], laidByText := true, laidKinds := [.data], laidTests := true, laidLooks := .later }
def HeadPacksUptoCardSaid : Prop := Claim7.holds Tryd.pinned (.plain (OpenSpec.upto headPacksSpec)) headPacksUptoCard

/-- THE SECOND FORM's CARD OF 'comptorlaw05.HeadTurns'. -/
def headTurnsUptoCard : Claim7 := { stood := { row := headTurnsUptoRow, standIns := [], harness := (true, "c76dfde8d7cb9febd8c8558455c26ae0429631771e9c7ce6ed6f3d970c43eeac"), looks := false }, kinds := [], alts := [], laidByText := true, laidKinds := [.data], laidTests := true, laidLooks := .later }
def HeadTurnsUptoCardSaid : Prop := Claim7.holds Tryd.pinned (.plain (OpenSpec.upto headTurnsSpec)) headTurnsUptoCard

/-- THE SECOND FORM's CARD OF 'comptorlaw05.HeadUnlike'. -/
def headUnlikeUptoCard : Claim7 := { stood := { row := headUnlikeUptoRow, standIns := [], harness := (true, "c76dfde8d7cb9febd8c8558455c26ae0429631771e9c7ce6ed6f3d970c43eeac"), looks := false }, kinds := [], alts := [], laidByText := true, laidKinds := [.data], laidTests := true, laidLooks := .later }
def HeadUnlikeUptoCardSaid : Prop := Claim7.holds Tryd.pinned (.plain (OpenSpec.upto headUnlikeSpec)) headUnlikeUptoCard
end Rows
end Go.Proofs.YtfkhfajkhijbpaaDoor
