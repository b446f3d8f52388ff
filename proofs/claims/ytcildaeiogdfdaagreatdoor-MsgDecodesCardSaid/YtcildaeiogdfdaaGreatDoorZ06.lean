/-
  strings.Clone answers the text as it was.
-/
import Derived.Test.YtcildaeiogdfdaaGreatDoorZ05
import Derived.Test.YtcildaeiogdfdaaGreatDoorZ01
import Derived.Test.YtcildaeiogdfdaaGreatDoorProg
import Derived.Shelf.LaysM
import Derived.Shelf.Strconv.Clone
namespace Go.Proofs.YtcildaeiogdfdaaGreatDoor
open Go.RowKit
set_option maxRecDepth 10000

def cloneRen : Go.Shelf.Ren := ⟨fun | 316 => 54 | n => n, fun | 9 => 9 | 3 => 3 | 4 => 4 | 37 => 47 | 0 => 0 | 127 => 127 | 5 => 5 | n => n, fun | n => n⟩
theorem cloneLays : Go.Proofs.LaysM.n316 Tryz.prog cloneRen := by
  constructor
  all_goals first
    | kernel_rfl
    | (constructor <;> first | kernel_rfl | exact Tryz.func54.trans (congrArg some (by kernel_rfl)) | exact Tryz.isAgg9 | exact Tryz.isAgg3 | exact Tryz.isAgg4 | exact Tryz.isAgg47 | exact Tryz.isAgg0 | exact Tryz.isAgg127 | exact Tryz.isAgg5 | exact Tryz.sizeOf9 | exact Tryz.sizeOf3 | exact Tryz.sizeOf4 | exact Tryz.sizeOf47 | exact Tryz.sizeOf0 | exact Tryz.sizeOf127 | exact Tryz.sizeOf5 | exact Tryz.zeroValue9 | exact Tryz.zeroValue3 | exact Tryz.zeroValue4 | exact Tryz.zeroValue47 | exact Tryz.zeroValue0 | exact Tryz.zeroValue127 | exact Tryz.zeroValue5)
    | exact Tryz.isAgg9 | exact Tryz.isAgg3 | exact Tryz.isAgg4 | exact Tryz.isAgg47 | exact Tryz.isAgg0 | exact Tryz.isAgg127 | exact Tryz.isAgg5 | exact Tryz.sizeOf9 | exact Tryz.sizeOf3 | exact Tryz.sizeOf4 | exact Tryz.sizeOf47 | exact Tryz.sizeOf0 | exact Tryz.sizeOf127 | exact Tryz.sizeOf5 | exact Tryz.zeroValue9 | exact Tryz.zeroValue3 | exact Tryz.zeroValue4 | exact Tryz.zeroValue47 | exact Tryz.zeroValue0 | exact Tryz.zeroValue127 | exact Tryz.zeroValue5
theorem sclone_any (s : ByteArray) (w : World) (h : s.size ≤ 281474976710656) :
    Calls Tryz.prog 54 #[.string s] w fun e w' => e = .returned (.string s) ∧ Below w.heap.size w w' := Any.stringslite_Clone cloneLays s w h
theorem clone_any (s : ByteArray) (w : World) (h : s.size ≤ 281474976710656) :
    Calls Tryz.prog 28 #[.string s] w fun e w' => e = .returned (.string s) ∧ Below w.heap.size w w' := by
  go_enter Tryz.func28, Tryz.ntmps28
  go_wp2_with (go_at_call 54; refine (sclone_any s _ h).mono ?_; rintro e w1 ⟨rfl, hb1⟩)
  go_ret
  exact ⟨rfl, hb1⟩
end Go.Proofs.YtcildaeiogdfdaaGreatDoor
