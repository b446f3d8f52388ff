/-
  The laws' arguments: an entry, a mark, as they read.
-/
import Derived.Test.YteahbalcielhpaaGreatDoorZ02
import Derived.Test.YteahbalcielhpaaGreatDoorZ07
import Derived.ChangeSlices
import Derived.Deep.Slices
namespace Go.Proofs.YteahbalcielhpaaGreatDoor
open Go.ChangeShapes Go.WideShapes Go.ChangeAt Go.RowKit
set_option maxRecDepth 10000

section
variable {H : Type} {enc : TypeId × Value → H} {W : World}
theorem cellsIntE : Tryz.prog.cellsOf 3 = 1 := by kernel_rfl
theorem cellsU64E : Tryz.prog.cellsOf 25 = 1 := by kernel_rfl
theorem cellsStrE : Tryz.prog.cellsOf 9 = 1 := by kernel_rfl
theorem int_of_wfE {n : Int} (h : (Lit.int .i64 n).wf = true) : In64 n := i64_bounds h
end
end Go.Proofs.YteahbalcielhpaaGreatDoor
