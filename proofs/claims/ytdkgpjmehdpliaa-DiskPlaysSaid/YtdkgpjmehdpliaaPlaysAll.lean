/-
  DiskPlays of any number of sectors.
-/
import Derived.Test.YtdkgpjmehdpliaaPlays
namespace Go.Proofs.Ytdkgpjmehdpliaa
open Go.RowKit
theorem plays_calls (x : Int) (A : Option Addr) (l c : Nat) (XS : List Act0) (w : World) (hl : l = XS.length) (hl2 : l ≤ 9223372036854775807) (hok : ∀ X ∈ XS, X.OK w w.heap.size)
    (hr : Rd w w.heap.size A (XS.map Act0.cells).flatten) :
    Calls Try.prog 3 #[.int .i64 x, .slice A l c] w (YF w) := by
  by_cases h : 1 ≤ x ∧ x ≤ 64
  · obtain ⟨n, rfl⟩ := Int.eq_ofNat_of_zero_le (show 0 ≤ x by omega)
    exact plays_ok n A l c XS w (by omega) (by omega) hl hl2 hok hr
  · exact plays_bad x _ w h
end Go.Proofs.Ytdkgpjmehdpliaa
