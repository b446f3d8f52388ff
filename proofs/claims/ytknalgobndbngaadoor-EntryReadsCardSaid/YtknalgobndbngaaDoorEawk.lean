/-
  The walk of the laws' awake.
-/
import Derived.Test.YtknalgobndbngaaDoorNext
import Derived.Test.YtknalgobndbngaaDoorFol
import Derived.Test.YtknalgobndbngaaDoorLift
namespace Go.Proofs.YtknalgobndbngaaDoor
open Go.RowKit
set_option maxRecDepth 10000

theorem rt_1 : Rt ⟨0, 1, 0, 0, 7, 0, 0, 1, ⟨#[]⟩⟩ := by unfold Rt; decide
theorem rt_2 : ¬ Rt ⟨0, 1, 0, 0, 0, 0, 0, 1, ⟨#[]⟩⟩ := fun h => by
  have := h.2.1.1
  simp at this
set_option maxHeartbeats 1000000 in
theorem eawake_any (w : World) : Calls Tryd.prog 7 #[] w (Yes w) := by
  have HN : Hid (∀ W : World, Calls Tryd.prog 19 #[.agg #[.int .i64 0, .int .i64 0, .int .u64 0], .agg #[.int .i64 0, .int .i64 0, .int .i64 0, .int .u64 0, .int .i64 7, .int .i64 0, .int .i64 0, .int .i64 1, .string ⟨#[]⟩]] W
      (VE W (.agg #[.int .i64 0, .int .i64 1, .int .i64 0, .int .u64 0, .int .i64 7, .int .i64 0, .int .i64 0, .int .i64 1, .string ⟨#[]⟩]))) := hid fun W => next_any mk0 ⟨0, 0, 0, 0, 7, 0, 0, 1, ⟨#[]⟩⟩ W (by decide)
  have HF : Hid (∀ W : World, Calls Tryd.prog 17 #[.agg #[.int .i64 0, .int .i64 0, .int .u64 0], .agg #[.int .i64 0, .int .i64 1, .int .i64 0, .int .u64 0, .int .i64 7, .int .i64 0, .int .i64 0, .int .i64 1, .string ⟨#[]⟩]] W
      (VE W (.bool true))) := hid fun W => by
    have := efol_any mk0 ⟨0, 1, 0, 0, 7, 0, 0, 1, ⟨#[]⟩⟩ W
    rw [decide_eq_true (show Fol mk0 ⟨0, 1, 0, 0, 7, 0, 0, 1, ⟨#[]⟩⟩ from ⟨rt_1, rfl, rfl, rfl⟩)] at this
    exact this
  have HR : Hid (∀ W : World, Calls Tryd.prog 11 #[.agg #[.int .i64 0, .int .i64 1, .int .i64 0, .int .u64 0, .int .i64 0, .int .i64 0, .int .i64 0, .int .i64 1, .string ⟨#[]⟩]] W
      (VE W (.bool false))) := hid fun W => by
    have := eright_any ⟨0, 1, 0, 0, 0, 0, 0, 1, ⟨#[]⟩⟩ W
    rw [decide_eq_false rt_2] at this
    exact this
  go_enter Tryd.func7, Tryd.ntmps7
  go_wp2_with (first
    | (go_at_call 19; refine (HN.out _).mono ?_; rintro e w1 ⟨rfl, hb1⟩)
    | (go_at_call 17; refine (HF.out _).mono ?_; rintro e w2 ⟨rfl, hb2⟩)
    | (go_at_call 11; refine (HR.out _).mono ?_; rintro e w3 ⟨rfl, hb3⟩))
  go_ret
  have h1 := hb1.alloc hb1.size (.cells #[.int .i64 0, .int .i64 1, .int .i64 0, .int .u64 0, .int .i64 7, .int .i64 0, .int .i64 0, .int .i64 1, .string ⟨#[]⟩] 24)
  have h2 := h1.trans (hb2.mono h1.size)
  exact ⟨rfl, h2.trans (hb3.mono h2.size)⟩
end Go.Proofs.YtknalgobndbngaaDoor
