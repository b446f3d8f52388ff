/-
  DERIVED. GIVEN WITH THE SEED: THE CARDS: each row of YtafbeepacncooaaDoorRows.lean that lists a variable, with what it lists TIED to the program's text (the seventh form; the later family's looks); each row that meets fmt, with fmt's text TOLD by the authors' own Lean function (tested against real Go, not proved from fmt's source: count such statements apart). THE CARD IS WHAT COUNTS. Prove the row's statement (the work); the ties are given (YtafbeepacncooaaDoorTie.lean); close each card by the builder's one call (the guide's Derived/Test/ToyasCard.lean, 'card_holds'). Laid BY PROGRAM, IN A SANDBOX (cutbox-door.mjs). By AI agents, Wed Nov 11 2026. No macro, syntax, notation, axiom, sorry.
-/
import Derived.Test.YtafbeepacncooaaDoorRows
import GoSem.ClaimSeven
namespace Go.Proofs.YtafbeepacncooaaDoor
namespace Rows

/-- THE TIED CARD OF 'comptorlaw13.JournalKeeps'. -/
def journalKeepsCard : Claim7 := { stood := { row := journalKeepsRow, standIns := [], harness := (true, "2fc29b223364e1422ca00aeb6d637a5838ec5b53c1d16dbbb85ba49b0b483c29"), looks := false }, kinds := [], alts := [], laidByText := true, laidKinds := [.data], laidTests := true, laidLooks := .later }
def JournalKeepsCardSaid : Prop := Claim7.holds Tryd.pinned (.plain (OpenSpec.ofChange journalKeepsSpec)) journalKeepsCard

/-- THE TIED CARD OF 'comptorlaw13.JournalClean'. -/
def journalCleanCard : Claim7 := { stood := { row := journalCleanRow, standIns := [], harness := (true, "2fc29b223364e1422ca00aeb6d637a5838ec5b53c1d16dbbb85ba49b0b483c29"), looks := false }, kinds := [], alts := [], laidByText := true, laidKinds := [.data], laidTests := true, laidLooks := .later }
def JournalCleanCardSaid : Prop := Claim7.holds Tryd.pinned (.plain (OpenSpec.ofChange journalCleanSpec)) journalCleanCard

/-- THE TIED CARD OF 'comptorlaw13.JournalScrubs'. -/
def journalScrubsCard : Claim7 := { stood := { row := journalScrubsRow, standIns := [], harness := (true, "2fc29b223364e1422ca00aeb6d637a5838ec5b53c1d16dbbb85ba49b0b483c29"), looks := false }, kinds := [], alts := [], laidByText := true, laidKinds := [.data], laidTests := true, laidLooks := .later }
def JournalScrubsCardSaid : Prop := Claim7.holds Tryd.pinned (.plain (OpenSpec.ofChange journalScrubsSpec)) journalScrubsCard

/-- THE TIED CARD OF 'comptorlaw13.JournalNil'. -/
def journalNilCard : Claim7 := { stood := { row := journalNilRow, standIns := [], harness := (true, "2fc29b223364e1422ca00aeb6d637a5838ec5b53c1d16dbbb85ba49b0b483c29"), looks := false }, kinds := [], alts := [], laidByText := true, laidKinds := [.data], laidTests := true, laidLooks := .later }
def JournalNilCardSaid : Prop := Claim7.holds Tryd.pinned (.plain (OpenSpec.ofChange journalNilSpec)) journalNilCard

/-- THE SECOND FORM's CARD OF 'comptorlaw13.JournalKeeps'. -/
def journalKeepsUptoCard : Claim7 := { stood := { row := journalKeepsUptoRow, standIns := [], harness := (true, "2fc29b223364e1422ca00aeb6d637a5838ec5b53c1d16dbbb85ba49b0b483c29"), looks := false }, kinds := [], alts := [], laidByText := true, laidKinds := [.data], laidTests := true, laidLooks := .later }
def JournalKeepsUptoCardSaid : Prop := Claim7.holds Tryd.pinned (.plain (OpenSpec.upto journalKeepsSpec)) journalKeepsUptoCard

/-- THE SECOND FORM's CARD OF 'comptorlaw13.JournalClean'. -/
def journalCleanUptoCard : Claim7 := { stood := { row := journalCleanUptoRow, standIns := [], harness := (true, "2fc29b223364e1422ca00aeb6d637a5838ec5b53c1d16dbbb85ba49b0b483c29"), looks := false }, kinds := [], alts := [], laidByText := true, laidKinds := [.data], laidTests := true, laidLooks := .later }
def JournalCleanUptoCardSaid : Prop := Claim7.holds Tryd.pinned (.plain (OpenSpec.upto journalCleanSpec)) journalCleanUptoCard

/-- THE SECOND FORM's CARD OF 'comptorlaw13.JournalScrubs'. -/
def journalScrubsUptoCard : Claim7 := { stood := { row := journalScrubsUptoRow, standIns := [], harness := (true, "2fc29b223364e1422ca00aeb6d637a5838ec5b53c1d16dbbb85ba49b0b483c29"), looks := false }, kinds := [], alts := [], laidByText := true, laidKinds := [.data], laidTests := true, laidLooks := .later }
def JournalScrubsUptoCardSaid : Prop := Claim7.holds Tryd.pinned (.plain (OpenSpec.upto journalScrubsSpec)) journalScrubsUptoCard

/-- THE SECOND FORM's CARD OF 'comptorlaw13.JournalNil'. -/
def journalNilUptoCard : Claim7 := { stood := { row := journalNilUptoRow, standIns := [], harness := (true, "2fc29b223364e1422ca00aeb6d637a5838ec5b53c1d16dbbb85ba49b0b483c29"), looks := false }, kinds := [], alts := [], laidByText := true, laidKinds := [.data], laidTests := true, laidLooks := .later }
def JournalNilUptoCardSaid : Prop := Claim7.holds Tryd.pinned (.plain (OpenSpec.upto journalNilSpec)) journalNilUptoCard
end Rows
end Go.Proofs.YtafbeepacncooaaDoor
