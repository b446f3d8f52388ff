/-
  DERIVED. GIVEN WITH THE SEED: THE CARDS: each row of YtknalgobndbngaaDoorRows.lean that lists a variable, with what it lists TIED to the program's text (the seventh form; the later family's looks); each row that meets fmt, with fmt's text TOLD by the authors' own Lean function (tested against real Go, not proved from fmt's source: count such statements apart). THE CARD IS WHAT COUNTS. Prove the row's statement (the work); the ties are given (YtknalgobndbngaaDoorTie.lean); close each card by the builder's one call (the guide's Derived/Test/ToyasCard.lean, 'card_holds'). Laid BY PROGRAM, IN A SANDBOX (cutbox-door.mjs). By AI agents, Wed Nov 11 2026. No macro, syntax, notation, axiom, sorry.
-/
import Derived.Test.YtknalgobndbngaaDoorRows
import GoSem.ClaimSeven
namespace Go.Proofs.YtknalgobndbngaaDoor
namespace Rows

/-- THE TIED CARD OF 'comptorlaw09.EntryPacks'. -/
def entryPacksCard : Claim7 := { stood := { row := entryPacksRow, standIns := [], harness := (true, "9d93252eb407c1e52232d5cdf469a0480c2939e42c18ff959ab0cb9b7c2e803f"), looks := false }, kinds := [], alts := [], laidByText := true, laidKinds := [.data], laidTests := true, laidLooks := .later }
def EntryPacksCardSaid : Prop := Claim7.holds Tryd.pinned (.plain (OpenSpec.ofChange entryPacksSpec)) entryPacksCard

/-- THE TIED CARD OF 'comptorlaw09.EntryReads'. -/
def entryReadsCard : Claim7 := { stood := { row := entryReadsRow, standIns := [], harness := (true, "9d93252eb407c1e52232d5cdf469a0480c2939e42c18ff959ab0cb9b7c2e803f"), looks := false }, kinds := [], alts := [], laidByText := true, laidKinds := [.data], laidTests := true, laidLooks := .later }
def EntryReadsCardSaid : Prop := Claim7.holds Tryd.pinned (.plain (OpenSpec.ofChange entryReadsSpec)) entryReadsCard

/-- THE TIED CARD OF 'comptorlaw09.EntryTurns'. -/
def entryTurnsCard : Claim7 := { stood := { row := entryTurnsRow, standIns := [], harness := (true, "9d93252eb407c1e52232d5cdf469a0480c2939e42c18ff959ab0cb9b7c2e803f"), looks := false }, kinds := [], alts := [], laidByText := true, laidKinds := [.data], laidTests := true, laidLooks := .later }
def EntryTurnsCardSaid : Prop := Claim7.holds Tryd.pinned (.plain (OpenSpec.ofChange entryTurnsSpec)) entryTurnsCard

/-- THE TIED CARD OF 'comptorlaw09.EntryFollows'. -/
def entryFollowsCard : Claim7 := { stood := { row := entryFollowsRow, standIns := [], harness := (true, "9d93252eb407c1e52232d5cdf469a0480c2939e42c18ff959ab0cb9b7c2e803f"), looks := false }, kinds := [], alts := [], laidByText := true, laidKinds := [.data], laidTests := true, laidLooks := .later }
def EntryFollowsCardSaid : Prop := Claim7.holds Tryd.pinned (.plain (OpenSpec.ofChange entryFollowsSpec)) entryFollowsCard

/-- THE SECOND FORM's CARD OF 'comptorlaw09.EntryPacks'. -/
def entryPacksUptoCard : Claim7 := { stood := { row := entryPacksUptoRow, standIns := [], harness := (true, "9d93252eb407c1e52232d5cdf469a0480c2939e42c18ff959ab0cb9b7c2e803f"), looks := false }, kinds := [], alts := [], laidByText := true, laidKinds := [.data], laidTests := true, laidLooks := .later }
def EntryPacksUptoCardSaid : Prop := Claim7.holds Tryd.pinned (.plain (OpenSpec.upto entryPacksSpec)) entryPacksUptoCard

/-- THE SECOND FORM's CARD OF 'comptorlaw09.EntryReads'. -/
def entryReadsUptoCard : Claim7 := { stood := { row := entryReadsUptoRow, standIns := [], harness := (true, "9d93252eb407c1e52232d5cdf469a0480c2939e42c18ff959ab0cb9b7c2e803f"), looks := false }, kinds := [], alts := [], laidByText := true, laidKinds := [.data], laidTests := true, laidLooks := .later }
def EntryReadsUptoCardSaid : Prop := Claim7.holds Tryd.pinned (.plain (OpenSpec.upto entryReadsSpec)) entryReadsUptoCard

/-- THE SECOND FORM's CARD OF 'comptorlaw09.EntryTurns'. -/
def entryTurnsUptoCard : Claim7 := { stood := { row := entryTurnsUptoRow, standIns := [], harness := (true, "9d93252eb407c1e52232d5cdf469a0480c2939e42c18ff959ab0cb9b7c2e803f"), looks := false }, kinds := [], alts := [], laidByText := true, laidKinds := [.data], laidTests := true, laidLooks := .later }
def EntryTurnsUptoCardSaid : Prop := Claim7.holds Tryd.pinned (.plain (OpenSpec.upto entryTurnsSpec)) entryTurnsUptoCard

/-- THE SECOND FORM's CARD OF 'comptorlaw09.EntryFollows'. -/
def entryFollowsUptoCard : Claim7 := { stood := { row := entryFollowsUptoRow, standIns := [], harness := (true, "9d93252eb407c1e52232d5cdf469a0480c2939e42c18ff959ab0cb9b7c2e803f"), looks := false }, kinds := [], alts := [], laidByText := true, laidKinds := [.data], laidTests := true, laidLooks := .later }
def EntryFollowsUptoCardSaid : Prop := Claim7.holds Tryd.pinned (.plain (OpenSpec.upto entryFollowsSpec)) entryFollowsUptoCard
end Rows
end Go.Proofs.YtknalgobndbngaaDoor
