/-
  strings.Clone answers the text as it was.
-/
import Derived.Test.YtcildaeiogdfdaaDoorM05
import Derived.Test.YtcildaeiogdfdaaDoorM01
import Derived.Test.YtcildaeiogdfdaaDoorProg
import Derived.Shelf.LaysM
import Derived.Shelf.Strconv.Clone
namespace Go.Proofs.YtcildaeiogdfdaaDoor
open Go.RowKit
set_option maxRecDepth 10000

def cloneRen : Go.Shelf.Ren := ⟨fun | 316 => 77 | n => n, fun | 9 => 9 | 3 => 3 | 4 => 4 | 37 => 41 | 0 => 0 | 127 => 127 | 5 => 5 | n => n, fun | n => n⟩
theorem cloneLays : Go.Proofs.LaysM.n316 Tryd.prog cloneRen := by
  constructor
  all_goals first
    | kernel_rfl
    | (constructor <;> first | kernel_rfl | exact Tryd.func77.trans (congrArg some (by kernel_rfl)) | exact Tryd.isAgg9 | exact Tryd.isAgg3 | exact Tryd.isAgg4 | exact Tryd.isAgg41 | exact Tryd.isAgg0 | exact Tryd.isAgg127 | exact Tryd.isAgg5 | exact Tryd.sizeOf9 | exact Tryd.sizeOf3 | exact Tryd.sizeOf4 | exact Tryd.sizeOf41 | exact Tryd.sizeOf0 | exact Tryd.sizeOf127 | exact Tryd.sizeOf5 | exact Tryd.zeroValue9 | exact Tryd.zeroValue3 | exact Tryd.zeroValue4 | exact Tryd.zeroValue41 | exact Tryd.zeroValue0 | exact Tryd.zeroValue127 | exact Tryd.zeroValue5)
    | exact Tryd.isAgg9 | exact Tryd.isAgg3 | exact Tryd.isAgg4 | exact Tryd.isAgg41 | exact Tryd.isAgg0 | exact Tryd.isAgg127 | exact Tryd.isAgg5 | exact Tryd.sizeOf9 | exact Tryd.sizeOf3 | exact Tryd.sizeOf4 | exact Tryd.sizeOf41 | exact Tryd.sizeOf0 | exact Tryd.sizeOf127 | exact Tryd.sizeOf5 | exact Tryd.zeroValue9 | exact Tryd.zeroValue3 | exact Tryd.zeroValue4 | exact Tryd.zeroValue41 | exact Tryd.zeroValue0 | exact Tryd.zeroValue127 | exact Tryd.zeroValue5
theorem sclone_any (s : ByteArray) (w : World) (h : s.size ≤ 281474976710656) :
    Calls Tryd.prog 77 #[.string s] w fun e w' => e = .returned (.string s) ∧ Below w.heap.size w w' := Any.stringslite_Clone cloneLays s w h
theorem clone_any (s : ByteArray) (w : World) (h : s.size ≤ 281474976710656) :
    Calls Tryd.prog 54 #[.string s] w fun e w' => e = .returned (.string s) ∧ Below w.heap.size w w' := by
  go_enter Tryd.func54, Tryd.ntmps54
  go_wp2_with (go_at_call 77; refine (sclone_any s _ h).mono ?_; rintro e w1 ⟨rfl, hb1⟩)
  go_ret
  exact ⟨rfl, hb1⟩
end Go.Proofs.YtcildaeiogdfdaaDoor
