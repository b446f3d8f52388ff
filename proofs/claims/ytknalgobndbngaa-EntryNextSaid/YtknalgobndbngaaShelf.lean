/-
  strings.Clone answers the text as it was.
-/
import Derived.Test.YtknalgobndbngaaPre
import Derived.Test.YtknalgobndbngaaProg
import Derived.Shelf.LaysM
import Derived.Shelf.Strconv.Clone
namespace Go.Proofs.Ytknalgobndbngaa
open Go.RowKit

def cloneRen : Go.Shelf.Ren := ⟨fun | 316 => 11 | n => n, fun | 9 => 9 | 3 => 3 | 4 => 4 | 37 => 36 | 0 => 0 | 127 => 37 | 5 => 5 | n => n, fun | n => n⟩
theorem cloneLays : Go.Proofs.LaysM.n316 Try.prog cloneRen := by
  constructor
  all_goals first
    | kernel_rfl
    | (constructor <;> first | kernel_rfl | exact Try.func11.trans (congrArg some (by kernel_rfl)) | exact Try.isAgg9 | exact Try.isAgg3 | exact Try.isAgg4 | exact Try.isAgg36 | exact Try.isAgg0 | exact Try.isAgg37 | exact Try.isAgg5 | exact Try.sizeOf9 | exact Try.sizeOf3 | exact Try.sizeOf4 | exact Try.sizeOf36 | exact Try.sizeOf0 | exact Try.sizeOf37 | exact Try.sizeOf5 | exact Try.zeroValue9 | exact Try.zeroValue3 | exact Try.zeroValue4 | exact Try.zeroValue36 | exact Try.zeroValue0 | exact Try.zeroValue37 | exact Try.zeroValue5)
    | exact Try.isAgg9 | exact Try.isAgg3 | exact Try.isAgg4 | exact Try.isAgg36 | exact Try.isAgg0 | exact Try.isAgg37 | exact Try.isAgg5 | exact Try.sizeOf9 | exact Try.sizeOf3 | exact Try.sizeOf4 | exact Try.sizeOf36 | exact Try.sizeOf0 | exact Try.sizeOf37 | exact Try.sizeOf5 | exact Try.zeroValue9 | exact Try.zeroValue3 | exact Try.zeroValue4 | exact Try.zeroValue36 | exact Try.zeroValue0 | exact Try.zeroValue37 | exact Try.zeroValue5
theorem sclone_any (s : ByteArray) (w : World) (h : s.size ≤ 281474976710656) :
    Calls Try.prog 11 #[.string s] w fun e w' => e = .returned (.string s) ∧ Below w.heap.size w w' := Any.stringslite_Clone cloneLays s w h
theorem clone_any (s : ByteArray) (w : World) (h : s.size ≤ 281474976710656) :
    Calls Try.prog 10 #[.string s] w fun e w' => e = .returned (.string s) ∧ Below w.heap.size w w' := by
  go_enter Try.func10, Try.ntmps10
  go_wp2_with (go_at_call 11; refine (sclone_any s _ h).mono ?_; rintro e w1 ⟨rfl, hb1⟩)
  go_ret
  exact ⟨rfl, hb1⟩
end Go.Proofs.Ytknalgobndbngaa
