/-
  The walks of the chapter's examples, of long.
-/
import Derived.Test.YtfkhfajkhijbpaaDoorAwakeh
namespace Go.Proofs.YtfkhfajkhijbpaaDoor
open Go.RowKit
set_option maxRecDepth 10000

set_option maxHeartbeats 1000000 in
theorem awake_any (w : World) (hf : Fd w) : Calls Tryd.prog 6 #[] w (Yes w) := by
  obtain ⟨L, hL, h128, h48⟩ := pack0
  have Q1 : Hid (∀ W : World, Fd W → Calls Tryd.prog 8 #[.agg #[.int .i64 0, .int .i64 0, .int .i64 0, .int .i64 0, .int .i64 0, .int .i64 0, .int .i64 0, .int .i64 0, .int .i64 0, .int .i64 0, .int .i64 0, .int .u64 0], .string ⟨#[]⟩] W fun e W' => e = .returned (.tuple #[.string L, .int .i64 0]) ∧ Below W.heap.size W W') := hid fun W hW => by
    have := pack_any hd0 ⟨#[]⟩ W hW
    have h2 : (⟨(sb L).toArray⟩ : ByteArray) = L := mk_sb L
    have h3 : packS hd0 (sb ⟨#[]⟩) = (sb L, 0) := hL
    rw [h3] at this
    unfold SN at this
    rw [h2] at this
    exact this
  have Q2 : Hid (∀ W : World, Fd W → Calls Tryd.prog 8 #[.agg #[.int .i64 0, .int .i64 0, .int .i64 0, .int .i64 (-1), .int .i64 0, .int .i64 0, .int .i64 0, .int .i64 0, .int .i64 0, .int .i64 0, .int .i64 0, .int .u64 0], .string ⟨#[]⟩] W fun e W' => e = .returned (.tuple #[.string ⟨#[]⟩, .int .i64 4]) ∧ Below W.heap.size W W') := hid fun W hW => pack_form hdNeg ⟨#[]⟩ W hW fitsNeg
  have HF := hid hf
  clear hL hf
  go_enter Tryd.func6, Tryd.ntmps6
  go_wp2_with (first
    | (go_at_call 8; refine (Q2.out _ (HF.out.below hb1 HF.out.1)).mono ?_; rintro e w2 ⟨rfl, hb2⟩)
    | (go_at_call 8; refine (Q1.out _ HF.out).mono ?_; rintro e w1 ⟨rfl, hb1⟩))
  go_ret
  exact ⟨rfl, hb1.trans (hb2.mono hb1.size)⟩

theorem long_any (s : ByteArray) (w : World) : Calls Tryd.prog 7 #[.string s] w fun e w' => e = .returned (.bool (decide (5000 < (s.size : Int)))) ∧ w = w' := by
  go_enter Tryd.func7, Tryd.ntmps7
  go_wp2
  go_ret
  exact ⟨rfl, rfl⟩
end Go.Proofs.YtfkhfajkhijbpaaDoor
