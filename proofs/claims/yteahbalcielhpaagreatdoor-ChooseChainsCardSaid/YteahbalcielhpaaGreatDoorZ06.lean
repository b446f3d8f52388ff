/-
  strings.Clone answers the text as it was.
-/
import Derived.Test.YteahbalcielhpaaGreatDoorZ05
import Derived.Test.YteahbalcielhpaaGreatDoorZ01
import Derived.Test.YteahbalcielhpaaGreatDoorProg
import Derived.Shelf.LaysM
import Derived.Shelf.Strconv.Clone
namespace Go.Proofs.YteahbalcielhpaaGreatDoor
open Go.RowKit
set_option maxRecDepth 10000

def cloneRen : Go.Shelf.Ren := ⟨fun | 316 => 57 | n => n, fun | 9 => 9 | 3 => 3 | 4 => 4 | 37 => 81 | 0 => 0 | 127 => 107 | 5 => 5 | n => n, fun | n => n⟩
theorem cloneLays : Go.Proofs.LaysM.n316 Tryz.prog cloneRen := by
  constructor
  all_goals first
    | kernel_rfl
    | (constructor <;> first | kernel_rfl | exact Tryz.func57.trans (congrArg some (by kernel_rfl)) | exact Tryz.isAgg9 | exact Tryz.isAgg3 | exact Tryz.isAgg4 | exact Tryz.isAgg81 | exact Tryz.isAgg0 | exact Tryz.isAgg107 | exact Tryz.isAgg5 | exact Tryz.sizeOf9 | exact Tryz.sizeOf3 | exact Tryz.sizeOf4 | exact Tryz.sizeOf81 | exact Tryz.sizeOf0 | exact Tryz.sizeOf107 | exact Tryz.sizeOf5 | exact Tryz.zeroValue9 | exact Tryz.zeroValue3 | exact Tryz.zeroValue4 | exact Tryz.zeroValue81 | exact Tryz.zeroValue0 | exact Tryz.zeroValue107 | exact Tryz.zeroValue5)
    | exact Tryz.isAgg9 | exact Tryz.isAgg3 | exact Tryz.isAgg4 | exact Tryz.isAgg81 | exact Tryz.isAgg0 | exact Tryz.isAgg107 | exact Tryz.isAgg5 | exact Tryz.sizeOf9 | exact Tryz.sizeOf3 | exact Tryz.sizeOf4 | exact Tryz.sizeOf81 | exact Tryz.sizeOf0 | exact Tryz.sizeOf107 | exact Tryz.sizeOf5 | exact Tryz.zeroValue9 | exact Tryz.zeroValue3 | exact Tryz.zeroValue4 | exact Tryz.zeroValue81 | exact Tryz.zeroValue0 | exact Tryz.zeroValue107 | exact Tryz.zeroValue5
theorem sclone_any (s : ByteArray) (w : World) (h : s.size ≤ 281474976710656) :
    Calls Tryz.prog 57 #[.string s] w fun e w' => e = .returned (.string s) ∧ Below w.heap.size w w' := Any.stringslite_Clone cloneLays s w h
theorem clone_any (s : ByteArray) (w : World) (h : s.size ≤ 281474976710656) :
    Calls Tryz.prog 38 #[.string s] w fun e w' => e = .returned (.string s) ∧ Below w.heap.size w w' := by
  go_enter Tryz.func38, Tryz.ntmps38
  go_wp2_with (go_at_call 57; refine (sclone_any s _ h).mono ?_; rintro e w1 ⟨rfl, hb1⟩)
  go_ret
  exact ⟨rfl, hb1⟩
end Go.Proofs.YteahbalcielhpaaGreatDoor
