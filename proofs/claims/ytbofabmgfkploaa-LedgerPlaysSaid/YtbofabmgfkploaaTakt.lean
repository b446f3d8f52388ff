/-
  The walk of the closure that takes a transfer.
-/
import Derived.Test.YtbofabmgfkploaaTak
namespace Go.Proofs.Ytbofabmgfkploaa
open Go.RowKit
set_option maxRecDepth 10000

def TBS (s : List UInt8) : List Value × Bool := if s.length = 32 then ((decT s).cells, true) else (tr0.cells, false)
theorem took_tr (s : List UInt8) : took tr0.cells s [0, 1, 2, 3] 4 = (decT s).cells := rfl

set_option maxHeartbeats 1000000 in
theorem takt_any (s : ByteArray) (w : World) : Calls Try.prog 71 #[.string s] w (AB w (TBS (sb s))) := by
  have HZ := hid trSize
  have hres : TBS (sb s) = if s.size = 32 then ((decT (sb s)).cells, true) else (tr0.cells, false) := by unfold TBS; rw [sb_len]
  rw [hres]
  clear hres
  have HE := hid (took_tr (sb s))
  have HCL : Hid ((decT (sb s)).cells.length = 4) := hid rfl
  have HC1 : Hid ((decT (sb s)).cells.all (·.oneCell') = true) := hid rfl
  generalize (decT (sb s)).cells = C at *
  have HZR := hid (show Row (((w.alloc (.cells tr0.cells.toArray 43)).alloc (.cells tr0.cells.toArray 43)).alloc (.cells (ptrs (w.heap.size + 1) [0, 1, 2, 3]).toArray 106)) w.heap.size 43 tr0.cells from
    Row.alloc (Row.alloc (Row.new _ _ _) _) _)
  have HW := hid (show Row (((w.alloc (.cells tr0.cells.toArray 43)).alloc (.cells tr0.cells.toArray 43)).alloc (.cells (ptrs (w.heap.size + 1) [0, 1, 2, 3]).toArray 106)) (w.heap.size + 1) 43 tr0.cells from
    Row.alloc (alloc2_new _ _ _) _)
  have HPT := hid (show Rd (((w.alloc (.cells tr0.cells.toArray 43)).alloc (.cells tr0.cells.toArray 43)).alloc (.cells (ptrs (w.heap.size + 1) [0, 1, 2, 3]).toArray 106)) (w.heap.size + 3) (some ⟨w.heap.size + 1 + 1, 0, none⟩) (ptrs (w.heap.size + 1) [0, 1, 2, 3]) from
    Row.rd (e := 106) (by
      have := Row.new ((w.alloc (.cells tr0.cells.toArray 43)).alloc (.cells tr0.cells.toArray 43)) 106 (ptrs (w.heap.size + 1) [0, 1, 2, 3]).toArray
      simp only [World.size_alloc] at this
      exact this) (by omega))
  have HB := hid ((((Below.refl w.heap.size w).alloc (Nat.le_refl _) (.cells tr0.cells.toArray 43)).alloc (by simp) (.cells tr0.cells.toArray 43)).alloc (by simp; omega) (.cells (ptrs (w.heap.size + 1) [0, 1, 2, 3]).toArray 106))
  by_cases h : s.size = 32
  · rw [if_pos h]
    have H32 : Hid (s.size = 8 * 4) := hid h
    clear h
    go_enter Try.func71, Try.ntmps71
    go_wp2_with (first
      | (go_at_call 72; refine (take_yes s (w.heap.size + 1) (w.heap.size + 1 + 1) 0 4 4 (w.heap.size + 3) 43 tr0.cells [0, 1, 2, 3] _ (by omega) (by omega) rfl H32.out HW.out HPT.out (by omega) (by omega) (by intro o ho; simp at ho; show o < 4; omega)).mono ?_; rintro e w2 ⟨rfl, hr2, hg2⟩; rw [HE.out] at hr2; have hz2 := HZR.out.grown hg2 (by simp))
      | (refine wpList_load_row rfl 43 (.tmp 4) rfl (w.heap.size + 1) rfl 43 _ (0, 0) _ hr2.arr' Try.underlying43 rfl (by rw [List.size_toArray, HCL.out]; exact HZ.out) ?_)
      | (refine wpl_store_st rfl (.tmp 2) (.tmp 13) rfl HZ.out w.heap.size tr0.cells _ rfl rfl hz2 ?_ (hid rfl) (hid HCL.out) (hid HC1.out); intro w3 hr3 hg3))
    refine bodyPost_ret (results_cell1 rfl _ _ w.heap.size 43 _ (0, 0) _ (.bool true) rfl rfl hr3.arr' Try.underlying43 rfl (by rw [List.size_toArray, HCL.out]; exact HZ.out)) rfl ⟨rfl, ?_⟩
    exact HB.out.trans ((below_grown hg2 (by omega) (by simp; omega)).trans (below_grown hg3 (Nat.le_refl _) (by have := hg2.size; simp at this; omega)))
  · rw [if_neg h]
    have HP := hid (fun P W => take_no s P 4 4 W (by omega) (bne_iff_ne.2 (by omega)))
    clear h
    go_enter Try.func71, Try.ntmps71
    go_wp2_with (first
      | (go_at_call 72; refine (HP.out _ _).mono ?_; rintro e w2 ⟨rfl, rfl⟩)
      | (refine wpList_load_row rfl 43 (.tmp 4) rfl (w.heap.size + 1) rfl 43 _ (0, 0) _ HW.out.arr' Try.underlying43 rfl HZ.out ?_)
      | (refine wpl_store_st rfl (.tmp 2) (.tmp 13) rfl HZ.out w.heap.size tr0.cells tr0.cells rfl rfl HZR.out ?_ (hid rfl) (hid rfl) (hid rfl); intro w3 hr3 hg3))
    refine bodyPost_ret (results_cell1 rfl _ _ w.heap.size 43 tr0.cells.toArray (0, 0) _ (.bool false) rfl rfl hr3.arr' Try.underlying43 rfl HZ.out) rfl ⟨rfl, ?_⟩
    exact HB.out.trans (below_grown hg3 (Nat.le_refl _) HB.out.size)
end Go.Proofs.Ytbofabmgfkploaa
