/-
  DERIVED. GIVEN WITH THE SEED: THE CARDS: each row of YtdcoiehhnllhmaaDoorRows.lean that lists a variable, with what it lists TIED to the program's text (the seventh form; the later family's looks); each row that meets fmt, with fmt's text TOLD by the authors' own Lean function (tested against real Go, not proved from fmt's source: count such statements apart). THE CARD IS WHAT COUNTS. Prove the row's statement (the work); the ties are given (YtdcoiehhnllhmaaDoorTie.lean); close each card by the builder's one call (the guide's Derived/Test/ToyasCard.lean, 'card_holds'). Laid BY PROGRAM, IN A SANDBOX (cutbox-door.mjs). By AI agents, Wed Nov 11 2026. No macro, syntax, notation, axiom, sorry.
-/
import Derived.Test.YtdcoiehhnllhmaaDoorRows
import GoSem.ClaimSeven
namespace Go.Proofs.YtdcoiehhnllhmaaDoor
namespace Rows

/-- THE TIED CARD OF 'comptorlaw12.SlotLays'. -/
def slotLaysCard : Claim7 := { stood := { row := slotLaysRow, standIns := [], harness := (true, "e69963e665bee561ba7fd95d561094da875a5e8f280a13b4729d8a9a44d2273b"), looks := false }, kinds := [], alts := [], laidByText := true, laidKinds := [.data], laidTests := true, laidLooks := .later }
def SlotLaysCardSaid : Prop := Claim7.holds Tryd.pinned (.plain (OpenSpec.ofChange slotLaysSpec)) slotLaysCard

/-- THE TIED CARD OF 'comptorlaw12.SlotReads'. -/
def slotReadsCard : Claim7 := { stood := { row := slotReadsRow, standIns := [], harness := (true, "e69963e665bee561ba7fd95d561094da875a5e8f280a13b4729d8a9a44d2273b"), looks := false }, kinds := [], alts := [], laidByText := true, laidKinds := [.data], laidTests := true, laidLooks := .later }
def SlotReadsCardSaid : Prop := Claim7.holds Tryd.pinned (.plain (OpenSpec.ofChange slotReadsSpec)) slotReadsCard

/-- THE TIED CARD OF 'comptorlaw12.SlotJudges'. -/
def slotJudgesCard : Claim7 := { stood := { row := slotJudgesRow, standIns := [], harness := (true, "e69963e665bee561ba7fd95d561094da875a5e8f280a13b4729d8a9a44d2273b"), looks := false }, kinds := [], alts := [], laidByText := true, laidKinds := [.data], laidTests := true, laidLooks := .later }
def SlotJudgesCardSaid : Prop := Claim7.holds Tryd.pinned (.plain (OpenSpec.ofChange slotJudgesSpec)) slotJudgesCard

/-- THE TIED CARD OF 'comptorlaw12.SlotTears'. -/
def slotTearsCard : Claim7 := { stood := { row := slotTearsRow, standIns := [], harness := (true, "e69963e665bee561ba7fd95d561094da875a5e8f280a13b4729d8a9a44d2273b"), looks := false }, kinds := [], alts := [], laidByText := true, laidKinds := [.data], laidTests := true, laidLooks := .later }
def SlotTearsCardSaid : Prop := Claim7.holds Tryd.pinned (.plain (OpenSpec.ofChange slotTearsSpec)) slotTearsCard

/-- THE TIED CARD OF 'comptorlaw12.SlotRots'. -/
def slotRotsCard : Claim7 := { stood := { row := slotRotsRow, standIns := [], harness := (true, "e69963e665bee561ba7fd95d561094da875a5e8f280a13b4729d8a9a44d2273b"), looks := false }, kinds := [], alts := [], laidByText := true, laidKinds := [.data], laidTests := true, laidLooks := .later }
def SlotRotsCardSaid : Prop := Claim7.holds Tryd.pinned (.plain (OpenSpec.ofChange slotRotsSpec)) slotRotsCard

/-- THE TIED CARD OF 'comptorlaw12.SlotVoids'. -/
def slotVoidsCard : Claim7 := { stood := { row := slotVoidsRow, standIns := [], harness := (true, "e69963e665bee561ba7fd95d561094da875a5e8f280a13b4729d8a9a44d2273b"), looks := false }, kinds := [], alts := [], laidByText := true, laidKinds := [.data], laidTests := true, laidLooks := .later }
def SlotVoidsCardSaid : Prop := Claim7.holds Tryd.pinned (.plain (OpenSpec.ofChange slotVoidsSpec)) slotVoidsCard

/-- THE TIED CARD OF 'comptorlaw12.SlotOver'. -/
def slotOverCard : Claim7 := { stood := { row := slotOverRow, standIns := [], harness := (true, "e69963e665bee561ba7fd95d561094da875a5e8f280a13b4729d8a9a44d2273b"), looks := false }, kinds := [], alts := [], laidByText := true, laidKinds := [.data], laidTests := true, laidLooks := .later }
def SlotOverCardSaid : Prop := Claim7.holds Tryd.pinned (.plain (OpenSpec.ofChange slotOverSpec)) slotOverCard

/-- THE SECOND FORM's CARD OF 'comptorlaw12.SlotLays'. -/
def slotLaysUptoCard : Claim7 := { stood := { row := slotLaysUptoRow, standIns := [], harness := (true, "e69963e665bee561ba7fd95d561094da875a5e8f280a13b4729d8a9a44d2273b"), looks := false }, kinds := [], alts := [], laidByText := true, laidKinds := [.data], laidTests := true, laidLooks := .later }
def SlotLaysUptoCardSaid : Prop := Claim7.holds Tryd.pinned (.plain (OpenSpec.upto slotLaysSpec)) slotLaysUptoCard

/-- THE SECOND FORM's CARD OF 'comptorlaw12.SlotReads'. -/
def slotReadsUptoCard : Claim7 := { stood := { row := slotReadsUptoRow, standIns := [], harness := (true, "e69963e665bee561ba7fd95d561094da875a5e8f280a13b4729d8a9a44d2273b"), looks := false }, kinds := [], alts := [], laidByText := true, laidKinds := [.data], laidTests := true, laidLooks := .later }
def SlotReadsUptoCardSaid : Prop := Claim7.holds Tryd.pinned (.plain (OpenSpec.upto slotReadsSpec)) slotReadsUptoCard

/-- THE SECOND FORM's CARD OF 'comptorlaw12.SlotJudges'. -/
def slotJudgesUptoCard : Claim7 := { stood := { row := slotJudgesUptoRow, standIns := [], harness := (true, "e69963e665bee561ba7fd95d561094da875a5e8f280a13b4729d8a9a44d2273b"), looks := false }, kinds := [], alts := [], laidByText := true, laidKinds := [.data], laidTests := true, laidLooks := .later }
def SlotJudgesUptoCardSaid : Prop := Claim7.holds Tryd.pinned (.plain (OpenSpec.upto slotJudgesSpec)) slotJudgesUptoCard

/-- THE SECOND FORM's CARD OF 'comptorlaw12.SlotTears'. -/
def slotTearsUptoCard : Claim7 := { stood := { row := slotTearsUptoRow, standIns := [], harness := (true, "e69963e665bee561ba7fd95d561094da875a5e8f280a13b4729d8a9a44d2273b"), looks := false }, kinds := [], alts := [], laidByText := true, laidKinds := [.data], laidTests := true, laidLooks := .later }
def SlotTearsUptoCardSaid : Prop := Claim7.holds Tryd.pinned (.plain (OpenSpec.upto slotTearsSpec)) slotTearsUptoCard

/-- THE SECOND FORM's CARD OF 'comptorlaw12.SlotRots'. -/
def slotRotsUptoCard : Claim7 := { stood := { row := slotRotsUptoRow, standIns := [], harness := (true, "e69963e665bee561ba7fd95d561094da875a5e8f280a13b4729d8a9a44d2273b"), looks := false }, kinds := [], alts := [], laidByText := true, laidKinds := [.data], laidTests := true, laidLooks := .later }
def SlotRotsUptoCardSaid : Prop := Claim7.holds Tryd.pinned (.plain (OpenSpec.upto slotRotsSpec)) slotRotsUptoCard

/-- THE SECOND FORM's CARD OF 'comptorlaw12.SlotVoids'. -/
def slotVoidsUptoCard : Claim7 := { stood := { row := slotVoidsUptoRow, standIns := [], harness := (true, "e69963e665bee561ba7fd95d561094da875a5e8f280a13b4729d8a9a44d2273b"), looks := false }, kinds := [], alts := [], laidByText := true, laidKinds := [.data], laidTests := true, laidLooks := .later }
def SlotVoidsUptoCardSaid : Prop := Claim7.holds Tryd.pinned (.plain (OpenSpec.upto slotVoidsSpec)) slotVoidsUptoCard

/-- THE SECOND FORM's CARD OF 'comptorlaw12.SlotOver'. -/
def slotOverUptoCard : Claim7 := { stood := { row := slotOverUptoRow, standIns := [], harness := (true, "e69963e665bee561ba7fd95d561094da875a5e8f280a13b4729d8a9a44d2273b"), looks := false }, kinds := [], alts := [], laidByText := true, laidKinds := [.data], laidTests := true, laidLooks := .later }
def SlotOverUptoCardSaid : Prop := Claim7.holds Tryd.pinned (.plain (OpenSpec.upto slotOverSpec)) slotOverUptoCard
end Rows
end Go.Proofs.YtdcoiehhnllhmaaDoor
