/-
  The walk of the document's Pack, whole; both Packs and both Rights of a header as one value.
-/
import Derived.Test.YtknalgobndbngaaDoorRpack
import Derived.Test.YtknalgobndbngaaDoorFactsh
import Derived.Test.YtknalgobndbngaaDoorUnp2
namespace Go.Proofs.YtknalgobndbngaaDoor
open Go.RowKit
set_option maxRecDepth 10000

set_option maxHeartbeats 1000000 in
theorem rpack_form (C : Array Value) (body : ByteArray) (w : World) (HR : Hid (∀ W, Calls Tryd.prog 35 #[.agg C] W (VE W (.bool false)))) (hsz : (Tryd.prog.info? 43).map (·.size) = some C.size) : Calls Tryd.prog 22 #[.agg C, .string body] w (SN w ([], 4)) := by
  have HSZ := hid hsz
  clear hsz
  go_enter Tryd.func22, Tryd.ntmps22
  go_wp2_with (first
    | (refine wpList_load_row rfl 43 (.tmp 2) rfl w.heap.size rfl 43 C (0, 0) _ (heap_alloc_new _ _) Tryd.underlying43 rfl HSZ.out ?_)
    | (go_at_call 35; refine (HR.out _).mono ?_; rintro e w1 ⟨rfl, hb1⟩))
  go_ret2
  exact ⟨rfl, ((Below.refl _ _).alloc (Nat.le_refl _) _).trans (hb1.mono (by simp))⟩

set_option maxHeartbeats 1000000 in
theorem rpack_long (C : Array Value) (body : ByteArray) (w : World) (HR : Hid (∀ W, Calls Tryd.prog 35 #[.agg C] W (VE W (.bool true)))) (hsz : (Tryd.prog.info? 43).map (·.size) = some C.size) (hlong : 3968 < (body.size : Int)) : Calls Tryd.prog 22 #[.agg C, .string body] w (SN w ([], 5)) := by
  have HSZ := hid hsz
  clear hsz
  go_enter Tryd.func22, Tryd.ntmps22
  go_wp2_with (first
    | (refine wpList_load_row rfl 43 (.tmp 2) rfl w.heap.size rfl 43 C (0, 0) _ (heap_alloc_new _ _) Tryd.underlying43 rfl HSZ.out ?_)
    | (go_at_call 35; refine (HR.out _).mono ?_; rintro e w1 ⟨rfl, hb1⟩))
  go_ret2
  exact ⟨rfl, ((Below.refl _ _).alloc (Nat.le_refl _) _).trans (hb1.mono (by simp))⟩

theorem rpack_any (h : Hd) (hh : h.fits) (body : ByteArray) (w : World) : Calls Tryd.prog 22 #[h.val, .string body] w (SN w (packS h (sb body))) := by
  have hl := sb_len body
  have hr := right_fits h hh
  unfold packS
  by_cases hfit : Fits h.nums
  · rw [if_neg (by simpa using hfit)]
    rw [decide_eq_true hfit] at hr
    by_cases hlong : 3968 < (sb body).length
    · rw [if_pos hlong]
      exact rpack_long h.cells body w (hid fun W => by have := rright_any h W; rw [hr] at this; exact this) (hcells_size h) (by omega)
    · rw [if_neg hlong]
      exact rpack_ok h body w hfit hr (by omega)
  · rw [if_pos hfit]
    rw [decide_eq_false hfit] at hr
    exact rpack_form h.cells body w (hid fun W => by have := rright_any h W; rw [hr] at this; exact this) (hcells_size h)
end Go.Proofs.YtknalgobndbngaaDoor
