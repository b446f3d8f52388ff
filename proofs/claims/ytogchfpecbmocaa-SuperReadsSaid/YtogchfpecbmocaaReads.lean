/-
  The walk of SuperReads.
-/
import Derived.Test.YtogchfpecbmocaaM21
import Derived.Test.YtogchfpecbmocaaM19
namespace Go.Proofs.Ytogchfpecbmocaa
open Go.RowKit
set_option maxRecDepth 10000

set_option maxHeartbeats 1000000 in
theorem reads_law (s : ByteArray) (w : World) : Calls Try.prog 4 #[.string s] w (VE w (.bool true)) := by
  have HZS := hid superSize
  have HAW := hid (fun W => awake_any W)
  by_cases h : (1000 : Int) < (s.size : Int)
  · clear HZS
    go_enter Try.func4, Try.ntmps4
    go_wp2_with (go_at_call 8; refine (HAW.out _).mono ?_; rintro e w1 ⟨rfl, hb1⟩)
    go_ret
    exact ⟨rfl, hb1⟩
  · have HU : Hid (∀ W, Calls Try.prog 15 #[.string s] W fun e w' => e = .returned (.tuple #[.agg (unpackU (sb s)).1.cells, .int .i64 (unpackU (sb s)).2]) ∧ Below W.heap.size W w') := hid fun W => sunpack_any s W
    have HRU : Hid (∀ W, Calls Try.prog 16 #[.string s] W fun e w' => e = .returned (.tuple #[.agg (unpackU (sb s)).1.cells, .int .i64 (unpackU (sb s)).2]) ∧ Below W.heap.size W w') := hid fun W => runpack_any s (by omega) W
    generalize (unpackU (sb s)).1 = S at *
    generalize (unpackU (sb s)).2 = x at *
    go_enter Try.func4, Try.ntmps4
    go_wp2_with (first
      | (go_at_call 8; refine (HAW.out _).mono ?_; rintro e w1 ⟨rfl, hb1⟩)
      | (go_at_call 15; refine (HU.out _).mono ?_; rintro e w2 ⟨rfl, hb2⟩; have bb := hb1.trans (hb2.mono hb1.size))
      | (refine wpl_store_st rfl (.tmp 3) (.tmp 15) rfl (n := 17) HZS.out w2.heap.size su0.cells S.cells rfl rfl (Row.new _ _ _) ?_ (hid rfl) (hid rfl) (cells_one _); intro w3 HR3 HB3; have bb3 := (bb.alloc bb.size (.cells su0.cells 27)).trans (below_grown HB3 bb.size (by have := bb.size; simp; omega)))
      | (go_at_call 16; refine (HRU.out _).mono ?_; rintro e w4 ⟨rfl, hb4⟩; have r3 := HR3.below hb4 HR3.lt; have bb4 := bb3.trans (hb4.mono bb3.size))
      | (refine wpl_store_st rfl (.tmp 5) (.tmp 20) rfl (n := 17) HZS.out w4.heap.size su0.cells S.cells rfl rfl (Row.new _ _ _) ?_ (hid rfl) (hid rfl) (cells_one _); intro w5 HR5 HB5; have bb5 := (bb4.alloc bb4.size (.cells su0.cells 27)).trans (below_grown HB5 bb4.size (by have := bb4.size; simp; omega)); have r5 := (r3.alloc (.cells su0.cells 27)).grown HB5 (by have := r3.lt; intro e; have := Option.some.inj e; omega))
      | (refine wpList_load_row rfl 27 (.tmp 3) rfl w2.heap.size rfl 27 S.cells (0, 0) _ r5.arr Try.underlying27 rfl HZS.out ?_)
      | (refine wpList_load_row rfl 27 (.tmp 5) rfl w4.heap.size rfl 27 S.cells (0, 0) _ HR5.arr Try.underlying27 rfl HZS.out ?_)
      | (refine wpl_eqsu rfl S S true (by simp) (.tmp 22) (.tmp 23) _ rfl rfl rfl ?_))
    go_ret
    exact ⟨by simp, bb5⟩
end Go.Proofs.Ytogchfpecbmocaa
