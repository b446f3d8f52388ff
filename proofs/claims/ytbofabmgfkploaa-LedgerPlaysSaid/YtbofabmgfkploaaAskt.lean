/-
  The walks of package event's layAsked, and of what a list's elements are laid by.
-/
import Derived.Test.YtbofabmgfkploaaAsk
import Derived.Deep.RegionHeld
namespace Go.Proofs.Ytbofabmgfkploaa
open Go.RowKit
set_option maxRecDepth 10000

set_option maxHeartbeats 1000000 in
theorem putt_any (x : Tr) (hx : x.ok) (w : World) : Calls Try.prog 64 #[.agg x.cells.toArray] w (SB w (optB (trB x))) := by
  obtain ⟨a, b, c, d⟩ := x
  obtain ⟨h1, h2, h3, h4⟩ := hx
  show Calls Try.prog 64 #[.agg #[.int .u64 (a : Int), .int .u64 (b : Int), .int .u64 (c : Int), .int .u64 (d : Int)]] w _
  have hl : leAll [a, b, c, d] = le a 8 ++ le b 8 ++ le c 8 ++ le d 8 := by simp [leAll]
  have HL := hid (fun W B A (hr : Rd W B A (rows Ic [a, b, c, d])) hB => lay_nums A [a, b, c, d] 4 4 B W hr rfl (by omega) (by omega) (by omega) (by
    intro x hx
    simp at hx
    rcases hx with rfl | rfl | rfl | rfl <;> assumption) hB)
  rw [hl] at HL
  have hE : optB (trB ⟨a, b, c, d⟩) = (le a 8 ++ le b 8 ++ le c 8 ++ le d 8, true) := by unfold optB trB; simp only [Option.getD_some, Option.isSome_some]
  rw [hE]
  clear hE
  generalize le a 8 ++ le b 8 ++ le c 8 ++ le d 8 = E at *
  clear hl h1 h2 h3 h4
  have HNW : Hid (∀ W : World, Rd (W.alloc (.cells #[.int .u64 (a : Int), .int .u64 (b : Int), .int .u64 (c : Int), .int .u64 (d : Int)] 41)) (W.heap.size + 1) (some ⟨W.heap.size, 0, none⟩) (rows Ic [a, b, c, d])) := hid fun W => Row.rd (cs := rows Ic [a, b, c, d]) (Row.new W 41 #[.int .u64 (a : Int), .int .u64 (b : Int), .int .u64 (c : Int), .int .u64 (d : Int)]) (Nat.lt_succ_self _)
  have h2 := HNW.out (w.alloc (.cells #[.int .u64 (a : Int), .int .u64 (b : Int), .int .u64 (c : Int), .int .u64 (d : Int)] 43))
  rw [World.size_alloc] at h2
  have HN2 := hid h2
  clear h2
  go_enter Try.func64, Try.ntmps64
  go_wp2_with (go_at_call 54; refine (HL.out _ _ _ HN2.out (by simp)).mono ?_; rintro e1 w1 ⟨rfl, hb⟩)
  go_ret2
  exact ⟨rfl, (((Below.refl _ _).alloc (Nat.le_refl _) _).alloc (by simp) _).trans (hb.mono (by simp; omega))⟩
end Go.Proofs.Ytbofabmgfkploaa
