/-
  strings.Clone answers the text as it was.
-/
import Derived.Test.YtgphijkonmdehaaPre
import Derived.Test.YtgphijkonmdehaaProg
import Derived.Shelf.LaysM
import Derived.Shelf.Strconv.Clone
namespace Go.Proofs.Ytgphijkonmdehaa
open Go.RowKit

def cloneRen : Go.Shelf.Ren := ⟨fun | 316 => 49 | n => n, fun | 9 => 9 | 3 => 3 | 4 => 4 | 37 => 60 | 0 => 0 | 127 => 87 | 5 => 5 | n => n, fun | n => n⟩
theorem cloneLays : Go.Proofs.LaysM.n316 Try.prog cloneRen := by
  constructor
  all_goals first
    | kernel_rfl
    | (constructor <;> first | kernel_rfl | exact Try.func49.trans (congrArg some (by kernel_rfl)) | exact Try.isAgg9 | exact Try.isAgg3 | exact Try.isAgg4 | exact Try.isAgg60 | exact Try.isAgg0 | exact Try.isAgg87 | exact Try.isAgg5 | exact Try.sizeOf9 | exact Try.sizeOf3 | exact Try.sizeOf4 | exact Try.sizeOf60 | exact Try.sizeOf0 | exact Try.sizeOf87 | exact Try.sizeOf5 | exact Try.zeroValue9 | exact Try.zeroValue3 | exact Try.zeroValue4 | exact Try.zeroValue60 | exact Try.zeroValue0 | exact Try.zeroValue87 | exact Try.zeroValue5)
    | exact Try.isAgg9 | exact Try.isAgg3 | exact Try.isAgg4 | exact Try.isAgg60 | exact Try.isAgg0 | exact Try.isAgg87 | exact Try.isAgg5 | exact Try.sizeOf9 | exact Try.sizeOf3 | exact Try.sizeOf4 | exact Try.sizeOf60 | exact Try.sizeOf0 | exact Try.sizeOf87 | exact Try.sizeOf5 | exact Try.zeroValue9 | exact Try.zeroValue3 | exact Try.zeroValue4 | exact Try.zeroValue60 | exact Try.zeroValue0 | exact Try.zeroValue87 | exact Try.zeroValue5
theorem sclone_any (s : ByteArray) (w : World) (h : s.size ≤ 281474976710656) :
    Calls Try.prog 49 #[.string s] w fun e w' => e = .returned (.string s) ∧ Below w.heap.size w w' := Any.stringslite_Clone cloneLays s w h
theorem clone_any (s : ByteArray) (w : World) (h : s.size ≤ 281474976710656) :
    Calls Try.prog 38 #[.string s] w fun e w' => e = .returned (.string s) ∧ Below w.heap.size w w' := by
  go_enter Try.func38, Try.ntmps38
  go_wp2_with (go_at_call 49; refine (sclone_any s _ h).mono ?_; rintro e w1 ⟨rfl, hb1⟩)
  go_ret
  exact ⟨rfl, hb1⟩
end Go.Proofs.Ytgphijkonmdehaa
