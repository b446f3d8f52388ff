/-
  The walk of DiskNil.
-/
import Derived.Test.YtdkgpjmehdpliaaDoes
namespace Go.Proofs.Ytdkgpjmehdpliaa
open Go.RowKit

set_option maxRecDepth 10000 in
set_option maxHeartbeats 1000000 in
theorem diskNil_calls (x : Act0) (w : World) : Calls Try.prog 7 #[x.val] w (YF w) := by
  have HD := hid (does_nil x)
  obtain ⟨kind, i, at_, n, c, text, A, cap, picks⟩ := x
  have hr := box_row w kind i at_ n c text A picks.length cap
  have hf := (Fr.refl w []).alloc (.cells #[.int .i64 kind, .int .i64 i, .int .i64 at_, .int .i64 n, .int .u8 (c.toNat : Int), .string text, .slice A picks.length cap] 34)
  have HR := hid hr
  have HF := hid hf
  clear hr hf
  unfold Act0.val boxA nilP at *
  go_enter Try.func7, Try.ntmps7
  go_wp2_with (first
    | (go_at_call 9; refine (awake_calls _).mono ?_; rintro e w1 ⟨rfl, hf1⟩; have hr1 := hf1.row HR.out (by simp); have c0 := hr1.at_ 0 _ rfl; have c1 := hr1.at_ 1 _ rfl; have c2 := hr1.at_ 2 _ rfl; have c3 := hr1.at_ 3 _ rfl; have c4 := hr1.at_ 4 _ rfl; have c5 := hr1.at_ 5 _ rfl; have c6 := hr1.at_ 6 _ rfl; have HR1 := hid hr1; clear hr1)
    | (go_at_call 17; refine (nil_Read i _).mono ?_; rintro e w2 ⟨rfl, rfl⟩; unfold str)
    | (go_at_call 12; refine (HD.out _).mono ?_; rintro e w2 ⟨rfl, hf2⟩; have d1 := (hf2.row HR1.out (by simp)).at_ 1 _ rfl)
    | (go_at_call 14; refine (nil_On _).mono ?_; rintro e w3 ⟨rfl, rfl⟩)
    | (go_at_call 19; refine (nil_Marked i _).mono ?_; rintro e w3 ⟨rfl, rfl⟩)
    | (go_at_call 15; refine (nil_Pending _).mono ?_; rintro e w3 ⟨rfl, rfl⟩)
    | (go_at_call 16; refine (nil_Steps _).mono ?_; rintro e w3 ⟨rfl, rfl⟩)
    | (go_at_call 21; refine (nil_Lasts i _).mono ?_; rintro e w3 ⟨rfl, rfl⟩; unfold str))
  go_ret
  exact ⟨rfl, (HF.out.trans hf1 (by simp)).trans hf2 (by simp)⟩
end Go.Proofs.Ytdkgpjmehdpliaa
