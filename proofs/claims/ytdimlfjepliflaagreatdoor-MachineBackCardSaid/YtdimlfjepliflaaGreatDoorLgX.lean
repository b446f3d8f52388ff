/-
  A ledger in plain words: what an event does, what is told, how it is packed.
-/
import Derived.Test.YtdimlfjepliflaaGreatDoorD05
import Derived.Test.YtdimlfjepliflaaGreatDoorEvX
namespace Go.Proofs.YtdimlfjepliflaaGreatDoor
open Go.RowKit

/-! ### what stays -/
theorem decW_flat (p : List UInt8) : (decW p).flat := by
  have h := UInt8.toNat_lt (p.getD 8 0)
  refine ⟨⟨at8_lt _ _, ⟨?_, ?_⟩, at8_lt _ _, at8_lt _ _⟩, ?_, ?_⟩
  · show -9223372036854775808 ≤ ((p.getD 8 0).toNat : Int); omega
  · show ((p.getD 8 0).toNat : Int) ≤ 9223372036854775807; omega
  · show (0 : Int) ≤ ((p.getD 8 0).toNat : Int); omega
  · show ((p.getD 8 0).toNat : Int) ≤ 255; omega
end Go.Proofs.YtdimlfjepliflaaGreatDoor
