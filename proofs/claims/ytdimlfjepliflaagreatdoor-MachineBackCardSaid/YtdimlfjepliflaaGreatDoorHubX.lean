/-
  Small words of three layers, for all of them.
-/
import Derived.Test.YtdimlfjepliflaaGreatDoorD10
import Derived.Test.YtdimlfjepliflaaGreatDoorD09
import Derived.Test.YtdimlfjepliflaaGreatDoorD02
import Derived.Test.YtdimlfjepliflaaGreatDoorD06
import Derived.ChangeSlices
import Derived.Deep.Slices
import Derived.Deep.RegionHeld
import Derived.Laws.StructEq
import Derived.Deep.QuietTactic
import Derived.BigQuiet
import Derived.BigRegion
import Derived.Test.YtdimlfjepliflaaGreatDoorLiftX
import Derived.Test.YtdimlfjepliflaaGreatDoorEvX
import Derived.Test.YtdimlfjepliflaaGreatDoorLgX
namespace Go.Proofs.YtdimlfjepliflaaGreatDoor
open Go.ChangeShapes Go.WideShapes Go.ChangeAt Go.RowKit
set_option maxRecDepth 10000

theorem results_cell2 {P : Program} {fn : Func} {p t u : Tmp} {ty : TypeId} (h : fn.results = #[.cell p ty, .tmp t, .tmp u]) (tmps : Array Value) (w : World) (g : Nat) (e : TypeId) (cs : Array Value) (fr : Nat × Nat) (d : TypeDesc) (x y : Value)
    (hx : tmps.getD t undef = x) (hy : tmps.getD u undef = y) (hp : tmps.getD p undef = .pointer (some ⟨g, 0, none⟩)) (hg : w.heap[g]? = some (.cells cs e fr))
    (hu : P.underlying ty = some d) (hd : (match d with | .struct _ | .array _ _ => true | _ => false) = true) (hi : (P.info? ty).map (·.size) = some cs.size) :
    (results fn tmps).run P w = .ok (.tuple #[.agg cs, x, y]) w := by
  subst hx hy
  have hp' : tmps[p]?.getD undef = .pointer (some ⟨g, 0, none⟩) := by simpa using hp
  simp [results, h, hp', asAddr, run_loadVar_row w g e ty cs fr d hg hu hd hi]
end Go.Proofs.YtdimlfjepliflaaGreatDoor
