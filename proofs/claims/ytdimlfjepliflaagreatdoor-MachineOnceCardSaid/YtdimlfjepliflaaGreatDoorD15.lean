/-
  The walks of package ledger's takeTransfer and takeAll.
-/
import Derived.Test.YtdimlfjepliflaaGreatDoorD11
namespace Go.Proofs.YtdimlfjepliflaaGreatDoor
open Go.RowKit
set_option maxRecDepth 10000

/-! ### takeAll -/
/-- how many there are -/
def num0 (s : List UInt8) : Nat := (s.getD 0 0).toNat
end Go.Proofs.YtdimlfjepliflaaGreatDoor
