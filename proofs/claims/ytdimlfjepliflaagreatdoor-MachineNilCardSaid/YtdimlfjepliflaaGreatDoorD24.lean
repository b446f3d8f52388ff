/-
  The walk of MachineNil.
-/
import Derived.Test.YtdimlfjepliflaaGreatDoorD23
import Derived.Test.YtdimlfjepliflaaGreatDoorD22
namespace Go.Proofs.YtdimlfjepliflaaGreatDoor
open Go.RowKit
set_option maxRecDepth 10000

theorem bb_trans {w W W' : World} (h : Below w.heap.size w W) (h' : Below W.heap.size W W') : Below w.heap.size w W' := h.trans (h'.mono h.size)
set_option maxHeartbeats 4000000 in
theorem mnil_go (view opn under : Int) (parent : Nat) (client session request oper : Int) (body : ByteArray) (w : World) (hf : Fd w) : Calls Tryz.prog 6 #[.agg #[.int .i64 view, .int .i64 opn, .int .i64 under, .int .u64 (parent : Int), .int .i64 client, .int .i64 session, .int .i64 request, .int .i64 oper, .string body]] w (Yes w) := by
  have HAW := hid (fun W hW => mawake_any W hW)
  have HAP : Hid (∀ W : World, Calls Tryz.prog 12 #[.pointer none, .agg #[.int .i64 view, .int .i64 opn, .int .i64 under, .int .u64 (parent : Int), .int .i64 client, .int .i64 session, .int .i64 request, .int .i64 oper, .string body]] W (VE W (.tuple #[.agg #[.int .i64 0, .int .i64 0, .int .i64 0, .int .i64 0, .int .i64 0, .string ⟨#[]⟩], .int .i64 2]))) := hid (fun W => app_nil view opn under parent client session request oper body W)
  have HCA : Hid (∀ W : World, Calls Tryz.prog 14 #[.pointer none, .int .i64 client, .int .i64 session, .int .i64 request] W (VE W (.tuple #[.agg #[.int .i64 0, .int .i64 0, .int .i64 0, .int .i64 0, .int .i64 0, .string ⟨#[]⟩], .bool false]))) := hid (fun W => mcac_nil client session request W)
  have HMK : Hid (∀ W : World, Calls Tryz.prog 18 #[.pointer none] W (VE W (.agg #[.int .i64 0, .int .i64 0, .int .u64 0]))) := hid (fun W => mmark_nil W)
  have HSE := hid (fun W => mses_nil W)
  have HAC := hid (fun W => macc_nil W)
  have HTR := hid (fun W => mtra_nil W)
  have HNW := hid (fun W => mnew_any W)
  have HP0 := hid (fun W => mpack_nil W)
  have HP1 := hid (fun p fp W (hk : Hm KP p ma0 fp W) => mpack_any p ma0 fp W ma0_wf hk)
  generalize ma0.pack = pk at *
  have HF := hid hf
  have HZ := hid asize
  have HZE := hid esize
  have HE := hid (Row.new w 31 #[.int .i64 view, .int .i64 opn, .int .i64 under, .int .u64 (parent : Int), .int .i64 client, .int .i64 session, .int .i64 request, .int .i64 oper, .string body])
  have HB := hid ((Below.refl w.heap.size w).alloc (Nat.le_refl _) (.cells #[.int .i64 view, .int .i64 opn, .int .i64 under, .int .u64 (parent : Int), .int .i64 client, .int .i64 session, .int .i64 request, .int .i64 oper, .string body] 31))
  clear hf
  go_enter Tryz.func6, Tryz.ntmps6
  go_wp2_with (first
    | (go_at_call 8; refine (HAW.out _ (HF.out.below HB.out HF.out.1)).mono ?_; rintro e w1 ⟨rfl, hx⟩; replace HB := hid (bb_trans HB.out hx); replace HE := hid (HE.out.below hx HE.out.lt); clear hx HAW)
    | (refine wpList_load_row rfl 31 (.tmp 1) rfl w.heap.size rfl 31 #[.int .i64 view, .int .i64 opn, .int .i64 under, .int .u64 (parent : Int), .int .i64 client, .int .i64 session, .int .i64 request, .int .i64 oper, .string body] (0, 0) _ (Row.arr (cs := #[.int .i64 view, .int .i64 opn, .int .i64 under, .int .u64 (parent : Int), .int .i64 client, .int .i64 session, .int .i64 request, .int .i64 oper, .string body]) HE.out) Tryz.underlying31 rfl HZE.out ?_)
    | (go_at_call 12; refine (HAP.out _).mono ?_; rintro e w2 ⟨rfl, hx⟩; replace HB := hid (bb_trans HB.out hx); replace HE := hid (HE.out.below hx HE.out.lt); clear hx HAP)
    | (refine wpl_store_st rfl (.tmp 4) (.tmp 14) rfl HZ.out w2.heap.size an0.cells.toList an0.cells.toList rfl rfl (Row.new _ _ _) ?_ (hid rfl) (hid rfl) (hid rfl); intro w3 hr3 hg3; have HR3 := hid hr3; have HX := hid (((Below.refl w2.heap.size w2).alloc (Nat.le_refl _) (.cells an0.cells 33)).trans (below_grown hg3 (Nat.le_refl _) (by simp))); replace HB := hid (bb_trans HB.out HX.out); replace HE := hid (HE.out.below HX.out HE.out.lt); have e4 := HE.out.at_ 4 _ rfl; have e5 := HE.out.at_ 5 _ rfl; have e6 := HE.out.at_ 6 _ rfl; clear hr3 hg3 HX)
    | (go_at_call 14; refine (HCA.out _).mono ?_; rintro e w4 ⟨rfl, hx⟩; replace HB := hid (bb_trans HB.out hx); replace HR3 := hid (HR3.out.below hx HR3.out.lt); clear hx HCA)
    | (refine wpl_store_st rfl (.tmp 6) (.tmp 25) rfl HZ.out w4.heap.size an0.cells.toList an0.cells.toList rfl rfl (Row.new _ _ _) ?_ (hid rfl) (hid rfl) (hid rfl); intro w5 hr5 hg5; have HR5 := hid hr5; have HX := hid (((Below.refl w4.heap.size w4).alloc (Nat.le_refl _) (.cells an0.cells 33)).trans (below_grown hg5 (Nat.le_refl _) (by simp))); replace HB := hid (bb_trans HB.out HX.out); replace HR3 := hid (HR3.out.below HX.out HR3.out.lt); clear hr5 hg5 HX)
    | (refine wpl_load_want (by kernel_rfl) 33 (.tmp 4) rfl w2.heap.size rfl 33 an0.cells (0, 0) _ HR3.out.arr Tryz.underlying33 rfl HZ.out ?_)
    | (refine wpl_load_want (by kernel_rfl) 33 (.tmp 6) rfl w4.heap.size rfl 33 an0.cells (0, 0) _ HR5.out.arr Tryz.underlying33 rfl HZ.out ?_)
    | (refine wpl_eqa (by kernel_rfl) an0 (.tmp 27) (.tmp 28) 33 rfl rfl rfl ?_)
    | (refine wpl_eqa (by kernel_rfl) an0 (.tmp 35) (.tmp 36) 33 rfl rfl rfl ?_)
    | (go_at_call 18; refine (HMK.out _).mono ?_; rintro e w6 ⟨rfl, hx⟩; replace HB := hid (bb_trans HB.out hx); clear hx HMK)
    | (refine wpl_eqm (by kernel_rfl) mk0 mk0 true (.tmp 45) (.tmp 46) 41 rfl rfl rfl (hid (by decide)) ?_)
    | (go_at_call 20; refine (HSE.out _).mono ?_; rintro e w7 ⟨rfl, hx⟩; replace HB := hid (bb_trans HB.out hx); clear hx HSE)
    | (go_at_call 22; refine (HAC.out _).mono ?_; rintro e w8 ⟨rfl, hx⟩; replace HB := hid (bb_trans HB.out hx); clear hx HAC)
    | (go_at_call 24; refine (HTR.out _).mono ?_; rintro e w9 ⟨rfl, hx⟩; replace HB := hid (bb_trans HB.out hx); clear hx HTR)
    | (go_at_call 25; have H0 := HP0.out; clear HP0; refine (H0 _).mono ?_; rintro e wa ⟨rfl, hx⟩; replace HB := hid (bb_trans HB.out hx); clear hx H0)
    | (go_at_call 10; refine (HNW.out _).mono ?_; rintro e wb ⟨p, fp, rfl, hk, -, hx⟩; replace HB := hid (bb_trans HB.out hx); have HK := hid hk; clear hk hx)
    | (go_at_call 25; refine (HP1.out p fp _ HK.out).mono ?_; rintro e wc ⟨rfl, hx⟩; replace HB := hid (bb_trans HB.out hx); clear hx))
  go_ret
  exact ⟨rfl, HB.out⟩
theorem mnil_law (e : En) (w : World) (hf : Fd w) : Calls Tryz.prog 6 #[e.val] w (Yes w) := by
  obtain ⟨view, opn, under, parent, client, session, request, oper, body⟩ := e
  exact mnil_go view opn under parent client session request oper body w hf
end Go.Proofs.YtdimlfjepliflaaGreatDoor
