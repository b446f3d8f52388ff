/-
  The walk of the chapter's examples, layer 6.
-/
import Derived.Test.YtjehghikmbalpaaLists
import Derived.Test.YtjehghikmbalpaaLift
namespace Go.Proofs.Ytjehghikmbalpaa
open Go.RowKit
set_option maxRecDepth 10000

theorem put_ex : putL idB [1, 258] = ([1, 0, 0, 0, 0, 0, 0, 0, 2, 1, 0, 0, 0, 0, 0, 0], 0) := by decide +kernel
theorem tak_ex : takL 9 decA [] = ([], false) := rfl

set_option maxHeartbeats 1000000 in
theorem awake_any (w : World) : Calls Try.prog 8 #[] w (VE w (.bool true)) := by
  have HP := hid (fun W A B (hr : Rd W B A (rows Ic [1, 258])) hB => puti_list A [1, 258] 2 2 B W hr rfl (Nat.le_refl _) hB (by intro x hx; simp at hx; rcases hx with rfl | rfl <;> decide))
  rw [put_ex] at HP
  have HT := hid (fun W => taka_list ⟨#[]⟩ W (by show 0 ≤ _; omega))
  rw [show sb ⟨#[]⟩ = [] from rfl, tak_ex] at HT
  have HNW : Hid (∀ W : World, Rd (W.alloc (.cells #[.int .u64 1, .int .u64 258] 29)) (W.heap.size + 1) (some ⟨W.heap.size, 0, none⟩) (rows Ic [1, 258])) := hid fun W => Row.rd (cs := rows Ic [1, 258]) (Row.new W 29 #[.int .u64 1, .int .u64 258]) (Nat.lt_succ_self _)
  go_enter Try.func8, Try.ntmps8
  go_wp2_with (first
    | (go_at_call 16; refine (HP.out _ _ _ (HNW.out _) (by simp)).mono ?_; rintro e w1 ⟨rfl, hb1⟩)
    | (go_at_call 11; refine (HT.out _).mono ?_; rintro e w2 ⟨A2, c2, rfl, -, -, hb2⟩))
  go_ret
  exact ⟨rfl, (((Below.refl _ _).alloc (Nat.le_refl _) _).trans (hb1.mono (by simp))).trans (hb2.mono (by have := hb1.size; simp at this; omega))⟩
end Go.Proofs.Ytjehghikmbalpaa
