/-
  The walks of NumTakes and NumReads.
-/
import Derived.Test.YtdnbcgpihedhgaaLaw
namespace Go.Proofs.Ytdnbcgpihedhgaa
open Go.RowKit

set_option maxHeartbeats 800000 in
theorem takes_any (A : Option Addr) (bs : List UInt8) (l c : Nat) (at_ size : Int) (w : World) (hr : Rd w w.heap.size A (bvs bs)) (hl : l = bs.length) (hl2 : l ≤ 140737488351232) (hlc : l ≤ c) :
    Calls Try.prog 4 #[.slice A l c, .int .i64 at_, .int .i64 size] w (Yes w) := by
  have P1 := fun (W : World) (h : Below w.heap.size w W) => take_any A bs l c w.heap.size at_ size W (hr.below h (Nat.le_refl _)) hl (by omega) hlc h.size
  have P2 := fun (W : World) (h : Below w.heap.size w W) => rtake_any A bs l c w.heap.size at_ size W (hr.below h (Nat.le_refl _)) hl (by omega)
  rcases hp : takeS bs at_ size with ⟨m, x⟩
  simp only [hp] at P1 P2
  have H1 := hid P1
  have H2 := hid P2
  clear hp hl P1 P2
  go_enter Try.func4, Try.ntmps4
  go_wp2_with (first
    | (go_at_call 8; refine (awake_any _).mono ?_; rintro e w1 ⟨rfl, hbe1⟩)
    | (go_at_call 12; refine (H1.out _ hbe1).mono ?_; rintro e w2 ⟨rfl, hbe2⟩)
    | (go_at_call 13; refine (H2.out _ (hbe1.trans (hbe2.mono hbe1.size))).mono ?_; rintro e w3 ⟨rfl, hbe3⟩))
  go_ret
  exact ⟨rfl, (hbe1.trans (hbe2.mono hbe1.size)).trans (hbe3.mono (Nat.le_trans hbe1.size hbe2.size))⟩

set_option maxHeartbeats 800000 in
theorem reads_any (A : Option Addr) (bs : List UInt8) (l c : Nat) (at_ most : Int) (w : World) (hr : Rd w w.heap.size A (bvs bs)) (hl : l = bs.length) (hl2 : l ≤ 140737488351232) (hlc : l ≤ c) :
    Calls Try.prog 6 #[.slice A l c, .int .i64 at_, .int .i64 most] w (Yes w) := by
  have P1 := fun (W : World) (h : Below w.heap.size w W) => tt_any A bs l c w.heap.size at_ most W (hr.below h (Nat.le_refl _)) hl (by omega) hlc h.size
  have P2 := fun (W : World) (h : Below w.heap.size w W) => rtt_any A bs l c w.heap.size at_ most W (hr.below h (Nat.le_refl _)) hl (by omega) h.size
  rcases hp : ttS bs at_ most with ⟨m, x, y⟩
  simp only [hp] at P1 P2
  have H1 := hid P1
  have H2 := hid P2
  clear hp hl P1 P2
  by_cases hlong : (70000 : Int) < l
  · go_enter Try.func6, Try.ntmps6
    go_wp2_with (go_at_call 8; refine (awake_any _).mono ?_; rintro e w1 ⟨rfl, hbe1⟩)
    go_ret
    exact ⟨rfl, hbe1⟩
  · go_enter Try.func6, Try.ntmps6
    go_wp2_with (first
      | (go_at_call 8; refine (awake_any _).mono ?_; rintro e w1 ⟨rfl, hbe1⟩)
      | (go_at_call 16; refine (H1.out _ hbe1).mono ?_; rintro e w2 ⟨rfl, hbe2⟩)
      | (go_at_call 18; refine (H2.out _ (hbe1.trans (hbe2.mono hbe1.size))).mono ?_; rintro e w3 ⟨rfl, hbe3⟩))
    go_ret
    exact ⟨rfl, (hbe1.trans (hbe2.mono hbe1.size)).trans (hbe3.mono (Nat.le_trans hbe1.size hbe2.size))⟩
end Go.Proofs.Ytdnbcgpihedhgaa
