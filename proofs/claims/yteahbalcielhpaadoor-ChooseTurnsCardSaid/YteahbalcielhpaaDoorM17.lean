/-
  The document's Right.
-/
import Derived.Test.YteahbalcielhpaaDoorM16
import Derived.Test.YteahbalcielhpaaDoorM15
import Derived.BigQuiet
import Derived.Deep.QuietTactic
namespace Go.Proofs.YteahbalcielhpaaDoor
open Go.RowKit
set_option maxRecDepth 10000

theorem belowN {B : Nat} {w w' : World} (h : Below B w w') (n : Nat) : Below B w (w'.drewN n) := ⟨h.os, h.tape, h.output, h.size, h.block⟩
end Go.Proofs.YteahbalcielhpaaDoor
