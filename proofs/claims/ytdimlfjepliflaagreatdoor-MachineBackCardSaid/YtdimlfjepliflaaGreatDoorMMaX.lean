/-
  A machine, its mark too, in plain words; answers in memory, held against each other.
-/
import Derived.Test.YtdimlfjepliflaaGreatDoorD22
import Derived.Test.YtdimlfjepliflaaGreatDoorD16
import Derived.Test.YtdimlfjepliflaaGreatDoorD17
import Derived.Test.YtdimlfjepliflaaGreatDoorLiftX
import Derived.Test.YtdimlfjepliflaaGreatDoorEvX
import Derived.Test.YtdimlfjepliflaaGreatDoorWholepX
import Derived.Test.YtdimlfjepliflaaGreatDoorLgX
import Derived.Test.YtdimlfjepliflaaGreatDoorHubX
import Derived.Test.YtdimlfjepliflaaGreatDoorSkX
import Derived.Test.YtdimlfjepliflaaGreatDoorSTtextX
import Derived.Test.YtdimlfjepliflaaGreatDoorTkallX
import Derived.Test.YtdimlfjepliflaaGreatDoorUnpkX
import Derived.Test.YtdimlfjepliflaaGreatDoorSTbX
import Derived.Test.YtdimlfjepliflaaGreatDoorEKdX
namespace Go.Proofs.YtdimlfjepliflaaGreatDoor
open Go.RowKit
set_option maxRecDepth 10000

/-! ### answers -/
section
variable {ops : Array Oper} {rest : List Oper} {o : Oper} {a : Act} {w : World} {Q : Exit → Act → World → Prop}
theorem wpl_nea (hw : Region.wanted o (yielded ops a.tmps) = true) (s : An) (x y : Operand) (ty : TypeId) (ho : o.op = .binOp .neq 33 x y ty)
    (hx : a.eval x = .agg s.cells) (hy : a.eval y = .agg s.cells) (h : wpList Tryz.prog ops Q rest (a.put o.dst (.bool false)) w) : wpList Tryz.prog ops Q (o :: rest) a w := by
  refine BigFrame.wpList_want hw fun K hK => ?_
  have hEQ := eqAn s w
  have hEG := egAn
  generalize s.cells = Z at *
  unfold Oper.wp execOp
  simp [ho, hx, hy, eqGuard, hEG, binOp, Op.equal, Op.maxDepth, hEQ, Result.andThen]
  exact hK _ _ h
end

/-! ### a machine with its mark -/
end Go.Proofs.YtdimlfjepliflaaGreatDoor
