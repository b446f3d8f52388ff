/-
  The walk of EventWhole.
-/
import Derived.Test.YtjehghikmbalpaaAwakev
import Derived.Test.YtjehghikmbalpaaWholer
import Derived.Test.YtjehghikmbalpaaSame
import Derived.BigFrame
namespace Go.Proofs.Ytjehghikmbalpaa
open Go.RowKit
set_option maxRecDepth 10000

/-- a load under a guard that says yes -/
theorem wpl_load_want {P : Program} {ops : Array Oper} {rest : List Oper} {o : Oper} {a : Act} {w : World} {Q : Exit → Act → World → Prop} (hw : Region.wanted o (yielded ops a.tmps) = true) (ty : TypeId) (x : Operand) (ho : o.op = .load ty x)
    (g : Nat) (hx : a.eval x = .pointer (some ⟨g, 0, none⟩)) (t : TypeId) (cs : Array Value) (fr : Nat × Nat) (d : TypeDesc) (hg : w.heap[g]? = some (.cells cs t fr))
    (hu : P.underlying ty = some d) (hd : (match d with | .struct _ | .array _ _ => true | _ => false) = true) (hi : (P.info? ty).map (·.size) = some cs.size)
    (h : wpList P ops Q rest (a.put o.dst (.agg cs)) w) : wpList P ops Q (o :: rest) a w :=
  BigFrame.wpList_want hw fun _ hK => wp_load_row ty x ho g hx t cs fr d hg hu hd hi (hK _ _ h)

set_option maxHeartbeats 2000000 in
theorem whole_yes (XA XD : List Value) (s : ByteArray) (w : World) (bs : List UInt8)
    (HXA4 : Hid (XA.length = 4)) (HXA1 : Hid (XA.all (·.oneCell') = true)) (HXD4 : Hid (XD.length = 4)) (HXD1 : Hid (XD.all (·.oneCell') = true)) (was : Bool)
    (HP : Hid (∀ W : World, Calls Try.prog 24 #[.agg XA.toArray] W (SN W (bs, 0))))
    (HQ : Hid (∀ W : World, Calls Try.prog 25 #[.agg XA.toArray] W (SN W (bs, 0))))
    (HW1 : Hid (∀ W : World, Calls Try.prog 26 #[.string ⟨bs.toArray⟩] W (AB W (XA, true))))
    (HW2 : Hid (∀ W : World, Calls Try.prog 26 #[.string s] W (AB W (XD, was))))
    (HW3 : Hid (∀ W : World, Calls Try.prog 27 #[.string s] W (AB W (XD, was))))
    (hED : ∀ W, (Op.equalIn 10000 31 (.agg XD.toArray) (.agg XD.toArray)).run Try.prog W = .ok true W) (hEA : ∀ W, (Op.equalIn 10000 31 (.agg XA.toArray) (.agg XA.toArray)).run Try.prog W = .ok true W) :
    Calls Try.prog 7 #[.agg XA.toArray, .string s] w (Yes w) := by
  have HA := hid awake_any
  have HZ := hid acSize
  have hEG : Try.prog.eqGuardType Try.prog.depth 31 = false := by kernel_rfl
  have HRA := hid (show Row (w.alloc (.cells XA.toArray 31)) w.heap.size 31 XA from Row.new _ _ _)
  have HB0 := hid ((Below.refl w.heap.size w).alloc (Nat.le_refl _) (.cells XA.toArray 31))
  go_enter Try.func7, Try.ntmps7
  go_wp2_with (first
    | (go_at_call 8; refine (HA.out _).mono ?_; rintro e w1 ⟨rfl, hb1⟩; have hbb := HB0.out.trans (hb1.mono HB0.out.size); have hrA := HRA.out.below hb1 HRA.out.lt)
    | (refine wpList_load_row rfl 31 (.tmp 2) rfl w.heap.size rfl 31 XA.toArray (0, 0) _ hrA.arr' Try.underlying31 rfl (by rw [List.size_toArray, HXA4.out]; exact HZ.out) ?_)
    | (go_at_call 24; refine (HP.out _).mono ?_; rintro e w2 ⟨rfl, hx⟩; replace hbb := Below.trans hbb (Below.mono hx (Below.size hbb)); replace hrA := hrA.below hx hrA.lt; clear hx)
    | (go_at_call 25; refine (HQ.out _).mono ?_; rintro e w3 ⟨rfl, hx⟩; replace hbb := Below.trans hbb (Below.mono hx (Below.size hbb)); replace hrA := hrA.below hx hrA.lt; clear hx)
    | (go_at_call 26; refine (HW1.out _).mono ?_; rintro e w4 ⟨rfl, hx⟩; replace hbb := Below.trans hbb (Below.mono hx (Below.size hbb)); replace hrA := hrA.below hx hrA.lt; clear hx HW1)
    | (refine wpl_store_st rfl (.tmp 9) (.tmp 30) rfl HZ.out w4.heap.size ac0.cells XA rfl rfl (Row.new _ _ _) ?_ (hid rfl) (hid HXA4.out) (hid HXA1.out); intro w5 hr9 hg; have hx : Below w4.heap.size w4 w5 := ((Below.refl _ _).alloc (Nat.le_refl _) _).trans (below_grown hg (Nat.le_refl _) (by simp)); clear hg; replace hbb := Below.trans hbb (Below.mono hx (Below.size hbb)); replace hrA := hrA.below hx hrA.lt; clear hx)
    | (go_at_call 26; refine (HW2.out _).mono ?_; rintro e w6 ⟨rfl, hx⟩; replace hbb := Below.trans hbb (Below.mono hx (Below.size hbb)); replace hrA := hrA.below hx hrA.lt; replace hr9 := hr9.below hx hr9.lt; clear hx HW2)
    | (refine wpl_store_st rfl (.tmp 11) (.tmp 35) rfl HZ.out w6.heap.size ac0.cells XD rfl rfl (Row.new _ _ _) ?_ (hid rfl) (hid HXD4.out) (hid HXD1.out); intro w7 hr11 hg; have hx : Below w6.heap.size w6 w7 := ((Below.refl _ _).alloc (Nat.le_refl _) _).trans (below_grown hg (Nat.le_refl _) (by simp)); clear hg; replace hbb := Below.trans hbb (Below.mono hx (Below.size hbb)); replace hrA := hrA.below hx hrA.lt; replace hr9 := hr9.below hx hr9.lt; clear hx)
    | (go_at_call 27; refine (HW3.out _).mono ?_; rintro e w8 ⟨rfl, hx⟩; replace hbb := Below.trans hbb (Below.mono hx (Below.size hbb)); replace hrA := hrA.below hx hrA.lt; replace hr9 := hr9.below hx hr9.lt; replace hr11 := hr11.below hx hr11.lt; clear hx)
    | (refine wpl_store_st rfl (.tmp 13) (.tmp 40) rfl HZ.out w8.heap.size ac0.cells XD rfl rfl (Row.new _ _ _) ?_ (hid rfl) (hid HXD4.out) (hid HXD1.out); intro w9 hr13 hg; have hx : Below w8.heap.size w8 w9 := ((Below.refl _ _).alloc (Nat.le_refl _) _).trans (below_grown hg (Nat.le_refl _) (by simp)); clear hg; replace hbb := Below.trans hbb (Below.mono hx (Below.size hbb)); replace hrA := hrA.below hx hrA.lt; replace hr9 := hr9.below hx hr9.lt; replace hr11 := hr11.below hx hr11.lt; clear hx)
    | (refine wpl_load_want rfl 31 (.tmp 11) rfl w6.heap.size rfl 31 XD.toArray (0, 0) _ hr11.arr' Try.underlying31 rfl (by rw [List.size_toArray, HXD4.out]; exact HZ.out) ?_)
    | (refine wpl_load_want rfl 31 (.tmp 13) rfl w8.heap.size rfl 31 XD.toArray (0, 0) _ hr13.arr' Try.underlying31 rfl (by rw [List.size_toArray, HXD4.out]; exact HZ.out) ?_)
    | (refine wpl_load_want rfl 31 (.tmp 9) rfl w4.heap.size rfl 31 XA.toArray (0, 0) _ hr9.arr' Try.underlying31 rfl (by rw [List.size_toArray, HXA4.out]; exact HZ.out) ?_)
    | (refine wpl_load_want rfl 31 (.tmp 2) rfl w.heap.size rfl 31 XA.toArray (0, 0) _ hrA.arr' Try.underlying31 rfl (by rw [List.size_toArray, HXA4.out]; exact HZ.out) ?_))
  all_goals
    go_ret
    exact ⟨rfl, hbb⟩

set_option maxHeartbeats 2000000 in
theorem whole_no (XA XD : List Value) (s : ByteArray) (w : World) (XB : List Value) (HXB4 : Hid (XB.length = 4)) (HXB1 : Hid (XB.all (·.oneCell') = true))
    (HXA4 : Hid (XA.length = 4)) (HXD4 : Hid (XD.length = 4)) (HXD1 : Hid (XD.all (·.oneCell') = true)) (was : Bool)
    (HP : Hid (∀ W : World, Calls Try.prog 24 #[.agg XA.toArray] W (SN W ([], 1))))
    (HQ : Hid (∀ W : World, Calls Try.prog 25 #[.agg XA.toArray] W (SN W ([], 1))))
    (HW1 : Hid (∀ W : World, Calls Try.prog 26 #[.string ⟨([] : List UInt8).toArray⟩] W (AB W (XB, false))))
    (HW2 : Hid (∀ W : World, Calls Try.prog 26 #[.string s] W (AB W (XD, was))))
    (HW3 : Hid (∀ W : World, Calls Try.prog 27 #[.string s] W (AB W (XD, was))))
    (hED : ∀ W, (Op.equalIn 10000 31 (.agg XD.toArray) (.agg XD.toArray)).run Try.prog W = .ok true W)  :
    Calls Try.prog 7 #[.agg XA.toArray, .string s] w (Yes w) := by
  have HA := hid awake_any
  have HZ := hid acSize
  have hEG : Try.prog.eqGuardType Try.prog.depth 31 = false := by kernel_rfl
  have HRA := hid (show Row (w.alloc (.cells XA.toArray 31)) w.heap.size 31 XA from Row.new _ _ _)
  have HB0 := hid ((Below.refl w.heap.size w).alloc (Nat.le_refl _) (.cells XA.toArray 31))
  go_enter Try.func7, Try.ntmps7
  go_wp2_with (first
    | (go_at_call 8; refine (HA.out _).mono ?_; rintro e w1 ⟨rfl, hb1⟩; have hbb := HB0.out.trans (hb1.mono HB0.out.size); have hrA := HRA.out.below hb1 HRA.out.lt)
    | (refine wpList_load_row rfl 31 (.tmp 2) rfl w.heap.size rfl 31 XA.toArray (0, 0) _ hrA.arr' Try.underlying31 rfl (by rw [List.size_toArray, HXA4.out]; exact HZ.out) ?_)
    | (go_at_call 24; refine (HP.out _).mono ?_; rintro e w2 ⟨rfl, hx⟩; replace hbb := Below.trans hbb (Below.mono hx (Below.size hbb)); replace hrA := hrA.below hx hrA.lt; clear hx)
    | (go_at_call 25; refine (HQ.out _).mono ?_; rintro e w3 ⟨rfl, hx⟩; replace hbb := Below.trans hbb (Below.mono hx (Below.size hbb)); replace hrA := hrA.below hx hrA.lt; clear hx)
    | (go_at_call 26; refine (HW1.out _).mono ?_; rintro e w4 ⟨rfl, hx⟩; replace hbb := Below.trans hbb (Below.mono hx (Below.size hbb)); replace hrA := hrA.below hx hrA.lt; clear hx HW1)
    | (refine wpl_store_st rfl (.tmp 9) (.tmp 30) rfl HZ.out w4.heap.size ac0.cells XB rfl rfl (Row.new _ _ _) ?_ (hid rfl) (hid HXB4.out) (hid HXB1.out); intro w5 hr9 hg; have hx : Below w4.heap.size w4 w5 := ((Below.refl _ _).alloc (Nat.le_refl _) _).trans (below_grown hg (Nat.le_refl _) (by simp)); clear hg; replace hbb := Below.trans hbb (Below.mono hx (Below.size hbb)); replace hrA := hrA.below hx hrA.lt; clear hx)
    | (go_at_call 26; refine (HW2.out _).mono ?_; rintro e w6 ⟨rfl, hx⟩; replace hbb := Below.trans hbb (Below.mono hx (Below.size hbb)); replace hrA := hrA.below hx hrA.lt; replace hr9 := hr9.below hx hr9.lt; clear hx HW2)
    | (refine wpl_store_st rfl (.tmp 11) (.tmp 35) rfl HZ.out w6.heap.size ac0.cells XD rfl rfl (Row.new _ _ _) ?_ (hid rfl) (hid HXD4.out) (hid HXD1.out); intro w7 hr11 hg; have hx : Below w6.heap.size w6 w7 := ((Below.refl _ _).alloc (Nat.le_refl _) _).trans (below_grown hg (Nat.le_refl _) (by simp)); clear hg; replace hbb := Below.trans hbb (Below.mono hx (Below.size hbb)); replace hrA := hrA.below hx hrA.lt; replace hr9 := hr9.below hx hr9.lt; clear hx)
    | (go_at_call 27; refine (HW3.out _).mono ?_; rintro e w8 ⟨rfl, hx⟩; replace hbb := Below.trans hbb (Below.mono hx (Below.size hbb)); replace hrA := hrA.below hx hrA.lt; replace hr9 := hr9.below hx hr9.lt; replace hr11 := hr11.below hx hr11.lt; clear hx)
    | (refine wpl_store_st rfl (.tmp 13) (.tmp 40) rfl HZ.out w8.heap.size ac0.cells XD rfl rfl (Row.new _ _ _) ?_ (hid rfl) (hid HXD4.out) (hid HXD1.out); intro w9 hr13 hg; have hx : Below w8.heap.size w8 w9 := ((Below.refl _ _).alloc (Nat.le_refl _) _).trans (below_grown hg (Nat.le_refl _) (by simp)); clear hg; replace hbb := Below.trans hbb (Below.mono hx (Below.size hbb)); replace hrA := hrA.below hx hrA.lt; replace hr9 := hr9.below hx hr9.lt; replace hr11 := hr11.below hx hr11.lt; clear hx)
    | (refine wpl_load_want rfl 31 (.tmp 11) rfl w6.heap.size rfl 31 XD.toArray (0, 0) _ hr11.arr' Try.underlying31 rfl (by rw [List.size_toArray, HXD4.out]; exact HZ.out) ?_)
    | (refine wpl_load_want rfl 31 (.tmp 13) rfl w8.heap.size rfl 31 XD.toArray (0, 0) _ hr13.arr' Try.underlying31 rfl (by rw [List.size_toArray, HXD4.out]; exact HZ.out) ?_)
    | (refine wpl_load_want rfl 31 (.tmp 9) rfl w4.heap.size rfl 31 XB.toArray (0, 0) _ hr9.arr' Try.underlying31 rfl (by rw [List.size_toArray, HXB4.out]; exact HZ.out) ?_)
    | (refine wpl_load_want rfl 31 (.tmp 2) rfl w.heap.size rfl 31 XA.toArray (0, 0) _ hrA.arr' Try.underlying31 rfl (by rw [List.size_toArray, HXA4.out]; exact HZ.out) ?_))
  all_goals
    go_ret
    exact ⟨rfl, hbb⟩

theorem whole_any (x : Ac) (hx : x.ok) (s : ByteArray) (w : World) : Calls Try.prog 7 #[.agg x.cells.toArray, .string s] w (Yes w) := by
  have HP := hid (pw_any x hx)
  have HQ := hid (rpw_any x hx)
  have HW := hid (fun bs : List UInt8 => wh_any ⟨bs.toArray⟩)
  by_cases h : 0 ≤ x.flags ∧ x.flags ≤ 255
  · have h1 := decW_le x hx h
    have h2 : (wholeB x).2 = 0 := by unfold wholeB; rw [if_pos h]
    have h3 : wholeB x = ((wholeB x).1, 0) := by rw [← h2]
    rw [h3] at HP HQ
    have h4 := HW.out (wholeB x).1
    rw [sb_mk, h1] at h4
    exact whole_yes x.cells (wholeS (sb s)).1.cells s w (wholeB x).1 (hid rfl) (hid rfl) (hid rfl) (hid rfl) (wholeS (sb s)).2 HP HQ (hid h4) (hid (wh_any s)) (hid (rwh_any s)) (eqAc _) (eqAc _)
  · have h3 : wholeB x = ([], 1) := by unfold wholeB; rw [if_neg h]
    rw [h3] at HP HQ
    have h4 := HW.out []
    rw [sb_mk] at h4
    exact whole_no x.cells (wholeS (sb s)).1.cells s w ac0.cells (hid rfl) (hid rfl) (hid rfl) (hid rfl) (hid rfl) (wholeS (sb s)).2 HP HQ (hid h4) (hid (wh_any s)) (hid (rwh_any s)) (eqAc _)
end Go.Proofs.Ytjehghikmbalpaa
