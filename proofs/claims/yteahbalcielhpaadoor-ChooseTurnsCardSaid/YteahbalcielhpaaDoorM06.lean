/-
  strings.Clone answers the text as it was.
-/
import Derived.Test.YteahbalcielhpaaDoorM05
import Derived.Test.YteahbalcielhpaaDoorM01
import Derived.Test.YteahbalcielhpaaDoorProg
import Derived.Shelf.LaysM
import Derived.Shelf.Strconv.Clone
namespace Go.Proofs.YteahbalcielhpaaDoor
open Go.RowKit
set_option maxRecDepth 10000

def cloneRen : Go.Shelf.Ren := ⟨fun | 316 => 36 | n => n, fun | 9 => 9 | 3 => 3 | 4 => 4 | 37 => 80 | 0 => 0 | 127 => 90 | 5 => 5 | n => n, fun | n => n⟩
theorem cloneLays : Go.Proofs.LaysM.n316 Tryd.prog cloneRen := by
  constructor
  all_goals first
    | kernel_rfl
    | (constructor <;> first | kernel_rfl | exact Tryd.func36.trans (congrArg some (by kernel_rfl)) | exact Tryd.isAgg9 | exact Tryd.isAgg3 | exact Tryd.isAgg4 | exact Tryd.isAgg80 | exact Tryd.isAgg0 | exact Tryd.isAgg90 | exact Tryd.isAgg5 | exact Tryd.sizeOf9 | exact Tryd.sizeOf3 | exact Tryd.sizeOf4 | exact Tryd.sizeOf80 | exact Tryd.sizeOf0 | exact Tryd.sizeOf90 | exact Tryd.sizeOf5 | exact Tryd.zeroValue9 | exact Tryd.zeroValue3 | exact Tryd.zeroValue4 | exact Tryd.zeroValue80 | exact Tryd.zeroValue0 | exact Tryd.zeroValue90 | exact Tryd.zeroValue5)
    | exact Tryd.isAgg9 | exact Tryd.isAgg3 | exact Tryd.isAgg4 | exact Tryd.isAgg80 | exact Tryd.isAgg0 | exact Tryd.isAgg90 | exact Tryd.isAgg5 | exact Tryd.sizeOf9 | exact Tryd.sizeOf3 | exact Tryd.sizeOf4 | exact Tryd.sizeOf80 | exact Tryd.sizeOf0 | exact Tryd.sizeOf90 | exact Tryd.sizeOf5 | exact Tryd.zeroValue9 | exact Tryd.zeroValue3 | exact Tryd.zeroValue4 | exact Tryd.zeroValue80 | exact Tryd.zeroValue0 | exact Tryd.zeroValue90 | exact Tryd.zeroValue5
theorem sclone_any (s : ByteArray) (w : World) (h : s.size ≤ 281474976710656) :
    Calls Tryd.prog 36 #[.string s] w fun e w' => e = .returned (.string s) ∧ Below w.heap.size w w' := Any.stringslite_Clone cloneLays s w h
theorem clone_any (s : ByteArray) (w : World) (h : s.size ≤ 281474976710656) :
    Calls Tryd.prog 22 #[.string s] w fun e w' => e = .returned (.string s) ∧ Below w.heap.size w w' := by
  go_enter Tryd.func22, Tryd.ntmps22
  go_wp2_with (go_at_call 36; refine (sclone_any s _ h).mono ?_; rintro e w1 ⟨rfl, hb1⟩)
  go_ret
  exact ⟨rfl, hb1⟩
end Go.Proofs.YteahbalcielhpaaDoor
