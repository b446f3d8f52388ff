/-
  The walk of the answer held against Take.
-/
import Derived.Test.YtgphijkonmdehaaTake
namespace Go.Proofs.Ytgphijkonmdehaa
open Go.RowKit
set_option maxRecDepth 10000

theorem leV_lt : ∀ l : List UInt8, leV l < 2 ^ (8 * l.length)
  | [] => by simp [leV]
  | b :: r => by
    have h := leV_lt r
    have h1 : b.toNat < 256 := UInt8.toNat_lt _
    rw [leV, List.length_cons, show 8 * (r.length + 1) = 8 * r.length + 8 by omega, Nat.pow_add]
    omega

end Go.Proofs.Ytgphijkonmdehaa
