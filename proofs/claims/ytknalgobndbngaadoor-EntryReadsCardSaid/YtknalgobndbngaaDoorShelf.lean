/-
  strings.Clone answers the text as it was.
-/
import Derived.Test.YtknalgobndbngaaDoorPre
import Derived.Test.YtknalgobndbngaaDoorProg
import Derived.Shelf.LaysM
import Derived.Shelf.Strconv.Clone
namespace Go.Proofs.YtknalgobndbngaaDoor
open Go.RowKit

def cloneRen : Go.Shelf.Ren := ⟨fun | 316 => 42 | n => n, fun | 9 => 9 | 3 => 3 | 4 => 4 | 37 => 34 | 0 => 0 | 127 => 73 | 5 => 5 | n => n, fun | n => n⟩
theorem cloneLays : Go.Proofs.LaysM.n316 Tryd.prog cloneRen := by
  constructor
  all_goals first
    | kernel_rfl
    | (constructor <;> first | kernel_rfl | exact Tryd.func42.trans (congrArg some (by kernel_rfl)) | exact Tryd.isAgg9 | exact Tryd.isAgg3 | exact Tryd.isAgg4 | exact Tryd.isAgg34 | exact Tryd.isAgg0 | exact Tryd.isAgg73 | exact Tryd.isAgg5 | exact Tryd.sizeOf9 | exact Tryd.sizeOf3 | exact Tryd.sizeOf4 | exact Tryd.sizeOf34 | exact Tryd.sizeOf0 | exact Tryd.sizeOf73 | exact Tryd.sizeOf5 | exact Tryd.zeroValue9 | exact Tryd.zeroValue3 | exact Tryd.zeroValue4 | exact Tryd.zeroValue34 | exact Tryd.zeroValue0 | exact Tryd.zeroValue73 | exact Tryd.zeroValue5)
    | exact Tryd.isAgg9 | exact Tryd.isAgg3 | exact Tryd.isAgg4 | exact Tryd.isAgg34 | exact Tryd.isAgg0 | exact Tryd.isAgg73 | exact Tryd.isAgg5 | exact Tryd.sizeOf9 | exact Tryd.sizeOf3 | exact Tryd.sizeOf4 | exact Tryd.sizeOf34 | exact Tryd.sizeOf0 | exact Tryd.sizeOf73 | exact Tryd.sizeOf5 | exact Tryd.zeroValue9 | exact Tryd.zeroValue3 | exact Tryd.zeroValue4 | exact Tryd.zeroValue34 | exact Tryd.zeroValue0 | exact Tryd.zeroValue73 | exact Tryd.zeroValue5
theorem sclone_any (s : ByteArray) (w : World) (h : s.size ≤ 281474976710656) :
    Calls Tryd.prog 42 #[.string s] w fun e w' => e = .returned (.string s) ∧ Below w.heap.size w w' := Any.stringslite_Clone cloneLays s w h
theorem clone_any (s : ByteArray) (w : World) (h : s.size ≤ 281474976710656) :
    Calls Tryd.prog 30 #[.string s] w fun e w' => e = .returned (.string s) ∧ Below w.heap.size w w' := by
  go_enter Tryd.func30, Tryd.ntmps30
  go_wp2_with (go_at_call 42; refine (sclone_any s _ h).mono ?_; rintro e w1 ⟨rfl, hb1⟩)
  go_ret
  exact ⟨rfl, hb1⟩
end Go.Proofs.YtknalgobndbngaaDoor
