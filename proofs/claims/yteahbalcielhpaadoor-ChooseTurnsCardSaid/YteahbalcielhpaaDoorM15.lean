/-
  The document's Same of messages.
-/
import Derived.Test.YteahbalcielhpaaDoorM14
namespace Go.Proofs.YteahbalcielhpaaDoor
open Go.RowKit
set_option maxRecDepth 10000

theorem isize : (Tryd.prog.info? 51).map (·.size) = some 15 := by kernel_rfl
theorem mssize : (Tryd.prog.info? 34).map (·.size) = some 33 := by kernel_rfl
section
variable {W : World} {g : Nat} {m : Ms} {p : Pl}
theorem ms_check (h : Row W g 34 (m.cells p).toList) : W.rangeAt g 12 m.check.cells.toList := fun j v hv => by
  rw [h.cell, show (m.cells p).toList = (m.cells p).toList.take 12 ++ (m.check.cells.toList ++ (m.cells p).toList.drop 15) from rfl, List.getElem?_append_right (by simp [Ms.cells])]
  rw [show 12 + j - ((m.cells p).toList.take 12).length = j by simp [Ms.cells], List.getElem?_append_left (List.getElem?_eq_some_iff.1 hv).1]
  exact hv
theorem ms_sums (h : Row W g 34 (m.cells p).toList) : W.rangeAt g 15 (sixV m.sums).toList := fun j v hv => by
  rw [h.cell, show (m.cells p).toList = (m.cells p).toList.take 15 ++ ((sixV m.sums).toList ++ (m.cells p).toList.drop 21) from rfl, List.getElem?_append_right (by simp [Ms.cells])]
  rw [show 15 + j - ((m.cells p).toList.take 15).length = j by simp [Ms.cells], List.getElem?_append_left (List.getElem?_eq_some_iff.1 hv).1]
  exact hv
theorem ms_entry (h : Row W g 34 (m.cells p).toList) : W.rangeAt g 21 m.entry.cells.toList := fun j v hv => by
  rw [h.cell, show (m.cells p).toList = (m.cells p).toList.take 21 ++ (m.entry.cells.toList ++ (m.cells p).toList.drop 30) from rfl, List.getElem?_append_right (by simp [Ms.cells])]
  rw [show 21 + j - ((m.cells p).toList.take 21).length = j by simp [Ms.cells], List.getElem?_append_left (List.getElem?_eq_some_iff.1 hv).1]
  exact hv
end
end Go.Proofs.YteahbalcielhpaaDoor
