/-
  The walk of the law JournalNil.
-/
import Derived.Test.YtafbeepacncooaaDoorM24
namespace Go.Proofs.YtafbeepacncooaaDoor
open Go.RowKit
set_option maxRecDepth 10000

set_option maxHeartbeats 4000000 in
theorem nil_law13 (X : En) (n : Int) (w : World) (hf : Fd w) : Calls Tryd.prog 6 #[X.val, .int .i64 n] w (Yes w) := by
  have HZE := hid esize
  have HSE : Hid (∀ t : En, t.cells.size = 9) := hid fun t => rfl
  have HOE : Hid (∀ t : En, t.cells.all (·.oneCell') = true) := hid ecells_one
  have HA := hid (fun W (hW : Fd W) => awake13_any W hW)
  have HRD : Hid (∀ W, Calls Tryd.prog 14 #[.pointer none, .int .i64 n] W fun x w' => x = .returned (.tuple #[.agg en0.cells, .int .i64 2]) ∧ Below W.heap.size W w') := hid fun W => read_nil13 n W
  have HPT : Hid (∀ W, Calls Tryd.prog 19 #[.pointer none, .agg X.cells] W fun x w' => x = .returned (.int .i64 2) ∧ Below W.heap.size W w') := hid fun W => put_nil13 X W
  have HVD := hid (fun W => void_nil13 n W)
  have HSH := hid (fun W => shift_nil13 n W)
  have HSC := hid (fun W => scrub_nil13 W)
  have HCK := hid (fun W => check_nil13 W)
  have HHD := hid (fun W => head_nil13 W)
  have HIT : Hid (∀ W, Calls Tryd.prog 12 #[.pointer none, .int .i64 n] W (VE W (.agg it0.cells))) := hid fun W => item_nil13 n W
  have HF := hid hf
  have HB0 := hid ((Below.refl w.heap.size w).alloc (Nat.le_refl _) (.cells X.cells 28))
  have HRX : Hid (Row (w.alloc (.cells X.cells 28)) w.heap.size 28 X.cells.toList) := hid (Row.new _ _ _)
  clear hf
  show Calls Tryd.prog 6 #[.agg X.cells, .int .i64 n] w _
  go_enter Tryd.func6, Tryd.ntmps6
  go_wp2_with (first
    | (go_at_call 7; refine (HA.out _ (HF.out.below HB0.out HF.out.1)).mono ?_; rintro e w1 ⟨rfl, hb⟩; have B1 := hid (HB0.out.trans (hb.mono HB0.out.size)); have X1 := hid (HRX.out.below hb HRX.out.lt); clear hb)
    | (go_at_call 14; refine (HRD.out _).mono ?_; rintro e w2 ⟨rfl, hb⟩; have B2 := hid (B1.out.trans (hb.mono B1.out.size)); have X2 := hid (X1.out.below hb X1.out.lt); clear hb)
    | (refine wpl_store_st rfl (.tmp 6) (.tmp 14) rfl (n := 9) HZE.out w2.heap.size en0.cells en0.cells rfl rfl (Row.new _ _ _) ?_ (hid rfl) (hid rfl) (hid (HOE.out _)); intro w3 hr hg; have hb : Below w2.heap.size w2 w3 := ((Below.refl w2.heap.size w2).alloc (Nat.le_refl _) _).trans (below_grown hg (Nat.le_refl _) (by simp)); have B3 := hid (B2.out.trans (hb.mono B2.out.size)); have X3 := hid (X2.out.below hb X2.out.lt); have E3 := hid hr; clear hb hr hg)
    | (refine wpList_load_row rfl 28 (.tmp 2) rfl w.heap.size rfl 28 X.cells (0, 0) _ X3.out.arr Tryd.underlying28 rfl (by rw [HSE.out]; exact HZE.out) ?_)
    | (go_at_call 19; refine (HPT.out _).mono ?_; rintro e w4 ⟨rfl, hb⟩; have B4 := hid (B3.out.trans (hb.mono B3.out.size)); have E4 := hid (E3.out.below hb E3.out.lt); clear hb)
    | (go_at_call 20; refine (HVD.out _).mono ?_; rintro e w5 ⟨rfl, hb⟩; have B5 := hid (B4.out.trans (hb.mono B4.out.size)); have E5 := hid (E4.out.below hb E4.out.lt); clear hb)
    | (go_at_call 21; refine (HSH.out _).mono ?_; rintro e w6 ⟨rfl, hb⟩; have B6 := hid (B5.out.trans (hb.mono B5.out.size)); have E6 := hid (E5.out.below hb E5.out.lt); clear hb)
    | (go_at_call 16; refine (HSC.out _).mono ?_; rintro e w7 ⟨rfl, hw7⟩; subst hw7)
    | (refine wpl_load_want (by kernel_rfl) 28 (.tmp 6) rfl w2.heap.size rfl 28 en0.cells (0, 0) _ E6.out.arr Tryd.underlying28 rfl (by rw [HSE.out]; exact HZE.out) ?_)
    | (refine wpl_eqe2 (by kernel_rfl) en0 en0 true (.tmp 38) (.tmp 39) _ rfl rfl rfl (hid (by simp)) ?_)
    | (go_at_call 22; refine (HCK.out _).mono ?_; rintro e w8 ⟨rfl, hw8⟩; subst hw8)
    | (go_at_call 23; refine (HHD.out _).mono ?_; rintro e w9 ⟨rfl, hw9⟩; subst hw9)
    | (go_at_call 12; refine (HIT.out _).mono ?_; rintro e w10 ⟨rfl, hb⟩; have B10 := hid (B6.out.trans (hb.mono B6.out.size)); clear hb)
    | (refine wpl_eqi (by kernel_rfl) it0 it0 true (.tmp 59) (.tmp 60) _ rfl rfl rfl (hid (.inl ⟨rfl, rfl⟩)) ?_))
  go_ret
  exact ⟨rfl, B10.out⟩
end Go.Proofs.YtafbeepacncooaaDoor
