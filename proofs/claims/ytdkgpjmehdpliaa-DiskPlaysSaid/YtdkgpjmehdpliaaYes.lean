/-
  From a walk that changes nothing that was there to the form that the rows ask.
-/
import Derived.Test.YtdkgpjmehdpliaaLift
import Derived.Test.YtdkgpjmehdpliaaAwake
namespace Go.Proofs.Ytdkgpjmehdpliaa
theorem YF.yes {w : World} {e : Ending} {w' : World} (h : YF w e w') : Yes w e w' := ⟨h.1, h.2.below (by simp) (Nat.le_refl _)⟩
end Go.Proofs.Ytdkgpjmehdpliaa
