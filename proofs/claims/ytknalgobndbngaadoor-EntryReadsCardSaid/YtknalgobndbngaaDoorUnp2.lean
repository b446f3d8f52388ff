/-
  The walk of package head's Unpack, whole.
-/
import Derived.Test.YtknalgobndbngaaDoorUnp
namespace Go.Proofs.YtknalgobndbngaaDoor
open Go.RowKit
set_option maxRecDepth 10000

set_option maxHeartbeats 1000000 in
theorem unp_short (s : ByteArray) (w : World) (h : (s.size : Int) < 128) : Calls Tryd.prog 25 #[.string s] w (HE w (hd0, [], 4)) := by
  go_enter Tryd.func25, Tryd.ntmps25
  go_wp2_with fail
  refine bodyPost_ret (v := .tuple #[hd0.val, .string ⟨#[]⟩, .int .i64 4]) (results_cell2 rfl _ _ w.heap.size 43 hd0.cells (0, 0) _ _ _ rfl rfl rfl (heap_alloc_new _ _) Tryd.underlying43 rfl (hcells_size hd0)) rfl ?_
  exact ⟨rfl, (Below.refl _ _).alloc (Nat.le_refl _) _⟩

theorem unp_any (s : ByteArray) (w : World) (hf : Fd w) (hbig : s.size ≤ 281474976710656) : Calls Tryd.prog 25 #[.string s] w (HE w (unpackS (sb s))) := by
  by_cases h : s.size < 128
  · have e : unpackS (sb s) = (hd0, [], 4) := by
      unfold unpackS
      rw [if_pos (by rw [sb_len]; exact h)]
    rw [e]
    exact unp_short s w (by omega)
  · exact unp_try s w hf (by omega) hbig
end Go.Proofs.YtknalgobndbngaaDoor
