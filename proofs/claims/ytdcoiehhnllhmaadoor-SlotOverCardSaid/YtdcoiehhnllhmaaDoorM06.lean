/-
  strings.Clone answers the text as it was.
-/
import Derived.Test.YtdcoiehhnllhmaaDoorM05
import Derived.Test.YtdcoiehhnllhmaaDoorM01
import Derived.Test.YtdcoiehhnllhmaaDoorProg
import Derived.Shelf.LaysM
import Derived.Shelf.Strconv.Clone
namespace Go.Proofs.YtdcoiehhnllhmaaDoor
open Go.RowKit
set_option maxRecDepth 10000

def cloneRen : Go.Shelf.Ren := ⟨fun | 316 => 107 | n => n, fun | 9 => 9 | 3 => 3 | 4 => 4 | 37 => 57 | 0 => 0 | 127 => 138 | 5 => 5 | n => n, fun | n => n⟩
theorem cloneLays : Go.Proofs.LaysM.n316 Tryd.prog cloneRen := by
  constructor
  all_goals first
    | kernel_rfl
    | (constructor <;> first | kernel_rfl | exact Tryd.func107.trans (congrArg some (by kernel_rfl)) | exact Tryd.isAgg9 | exact Tryd.isAgg3 | exact Tryd.isAgg4 | exact Tryd.isAgg57 | exact Tryd.isAgg0 | exact Tryd.isAgg138 | exact Tryd.isAgg5 | exact Tryd.sizeOf9 | exact Tryd.sizeOf3 | exact Tryd.sizeOf4 | exact Tryd.sizeOf57 | exact Tryd.sizeOf0 | exact Tryd.sizeOf138 | exact Tryd.sizeOf5 | exact Tryd.zeroValue9 | exact Tryd.zeroValue3 | exact Tryd.zeroValue4 | exact Tryd.zeroValue57 | exact Tryd.zeroValue0 | exact Tryd.zeroValue138 | exact Tryd.zeroValue5)
    | exact Tryd.isAgg9 | exact Tryd.isAgg3 | exact Tryd.isAgg4 | exact Tryd.isAgg57 | exact Tryd.isAgg0 | exact Tryd.isAgg138 | exact Tryd.isAgg5 | exact Tryd.sizeOf9 | exact Tryd.sizeOf3 | exact Tryd.sizeOf4 | exact Tryd.sizeOf57 | exact Tryd.sizeOf0 | exact Tryd.sizeOf138 | exact Tryd.sizeOf5 | exact Tryd.zeroValue9 | exact Tryd.zeroValue3 | exact Tryd.zeroValue4 | exact Tryd.zeroValue57 | exact Tryd.zeroValue0 | exact Tryd.zeroValue138 | exact Tryd.zeroValue5
theorem sclone_any (s : ByteArray) (w : World) (h : s.size ≤ 281474976710656) :
    Calls Tryd.prog 107 #[.string s] w fun e w' => e = .returned (.string s) ∧ Below w.heap.size w w' := Any.stringslite_Clone cloneLays s w h
theorem clone_any (s : ByteArray) (w : World) (h : s.size ≤ 281474976710656) :
    Calls Tryd.prog 99 #[.string s] w fun e w' => e = .returned (.string s) ∧ Below w.heap.size w w' := by
  go_enter Tryd.func99, Tryd.ntmps99
  go_wp2_with (go_at_call 107; refine (sclone_any s _ h).mono ?_; rintro e w1 ⟨rfl, hb1⟩)
  go_ret
  exact ⟨rfl, hb1⟩
end Go.Proofs.YtdcoiehhnllhmaaDoor
