/-
  The walk of EntryFollows.
-/
import Derived.Test.YtknalgobndbngaaDoorMrk
import Derived.Test.YtknalgobndbngaaDoorRfol
namespace Go.Proofs.YtknalgobndbngaaDoor
open Go.RowKit
set_option maxRecDepth 10000

/-- x == x, marks, in a region that draws its order -/
theorem yields_eqm {ops : Array Oper} {S : World → Prop} {o : Oper} {a : Act} (hw : Region.wanted o (yielded ops a.tmps) = true) (x y : Operand) (ty : TypeId) (ho : o.op = .binOp .eql 37 x y ty) (G K : Array Value)
    (hx : a.eval x = .agg G) (hy : a.eval y = .agg K) (b : Bool) (hEQ : ∀ W, (Op.equalIn 10000 37 (.agg G) (.agg K)).run Tryd.prog W = .ok b W) : YieldsIf Tryd.prog ops S o (.bool b) a :=
  .inl ⟨hw, fun w _ => by
    have hEG := egMk
    have hE := hEQ w
    unfold execOp
    simp [ho, hx, hy, eqGuard, hEG, binOp, Op.equal, Op.maxDepth, hE, Result.andThen]⟩
set_option maxHeartbeats 2000000 in
theorem efollows_ok (m g : Mk) (e : En) (b : Bool) (w : World) (hf : Fd w)
    (HM : Hid (∀ W : World, Fd W → Calls Tryd.prog 15 #[.agg e.cells] W (VE W (.agg g.cells))))
    (HN : Hid (∀ W : World, Calls Tryd.prog 16 #[.agg e.cells] W (VE W (.agg g.cells))))
    (HP : Hid (∀ W : World, Calls Tryd.prog 17 #[.agg m.cells, .agg e.cells] W (VE W (.bool b))))
    (HQ : Hid (∀ W : World, Calls Tryd.prog 18 #[.agg m.cells, .agg e.cells] W (VE W (.bool b))))
    (HEQ : Hid (∀ W : World, (Op.equalIn 10000 37 (.agg g.cells) (.agg g.cells)).run Tryd.prog W = .ok true W))
    (ha : decide (5000 < (e.body.size : Int)) = false) :
    Calls Tryd.prog 6 #[.agg m.cells, .agg e.cells] w (Yes w) := by
  have HA := hid eawake_any
  have HLa := hid (fun W => elong_any e.body W)
  rw [ha] at HLa
  have HF := hid hf
  have HZ := hid (ecells_size e)
  have HZM := hid (mcells_size m)
  have HC8 : Hid (e.cells.toList[8]? = some (.string e.body)) := hid rfl
  have HB : Hid (Below w.heap.size w ((w.alloc (.cells m.cells 37)).alloc (.cells e.cells 24))) := hid (((Below.refl w.heap.size w).alloc (Nat.le_refl _) _).alloc (by simp) _)
  have HRM : Hid (Row ((w.alloc (.cells m.cells 37)).alloc (.cells e.cells 24)) w.heap.size 37 m.cells.toList) := hid ((Row.new _ _ _).alloc _)
  have HRC : Hid (Row ((w.alloc (.cells m.cells 37)).alloc (.cells e.cells 24)) (w.heap.size + 1) 24 e.cells.toList) := hid (by
    have := Row.new (w.alloc (.cells m.cells 37)) 24 e.cells
    simpa using this)
  clear hf ha
  go_enter Tryd.func6, Tryd.ntmps6
  go_wp2_with (first
    | (go_at_call 7; refine (HA.out _).mono ?_; rintro x w1 ⟨rfl, hb1⟩; have hbb := HB.out.trans (hb1.mono HB.out.size); have hrC := HRC.out.below hb1 HRC.out.lt; have hrM := HRM.out.below hb1 HRM.out.lt; have c8 := hrC.at_ 8 _ HC8.out; clear hb1)
    | (go_at_call 8; refine (HLa.out _).mono ?_; rintro x w' ⟨rfl, rfl⟩))
  try simp only [Act.put]
  have HBB := hid hbb
  have HRO := hid hrC
  have HRN := hid hrM
  have HF1 := hid (HF.out.below hbb HF.out.1)
  clear hbb hrC hrM c8
  refine wp_region_held_drew (S := fun W => Below w1.heap.size w1 W) (by kernel_rfl) ((Below.refl _ _).drew) (fun hH => ?_)
  refine wpAnyH_take (i := 0) (v := .agg e.cells) rfl (by kernel_rfl) (by kernel_rfl) (by kernel_rfl) (fun _ _ _ h => h) ?_ hH ?_
  · refine yieldsIf_load_mid ?_ 24 (.tmp 3) ?_ (w.heap.size + 1) 0 ?_ (Array.toList e.cells) _ (fun W hW => Row.range (HRO.out.below hW HRO.out.lt)) Tryd.underlying24 rfl HZ.out
    all_goals kernel_rfl
  simp only [Act.put]
  refine wpAnyH_take (i := 2) (v := .agg e.cells) rfl (by kernel_rfl) (by kernel_rfl) (by kernel_rfl) (fun _ _ _ h => h) ?_ hH ?_
  · refine yieldsIf_load_mid ?_ 24 (.tmp 3) ?_ (w.heap.size + 1) 0 ?_ (Array.toList e.cells) _ (fun W hW => Row.range (HRO.out.below hW HRO.out.lt)) Tryd.underlying24 rfl HZ.out
    all_goals kernel_rfl
  simp only [Act.put]
  refine wpAnyH_ready (rs := [1]) (by kernel_rfl) (by simp) ?_
  refine AllReadyH.cons rfl (fun K hK => ?_) AllReadyH.nil
  go_simp
  go_at_call 15
  refine (HM.out _ (HF1.out.below hH HF1.out.1)).mono ?_
  rintro e w2 ⟨rfl, hb2⟩
  go_wp2_with fail
  refine hK.out _ _ (hH.trans (Below.mono hb2 hH.size)) (fun hH => ?_)
  clear hK K
  try simp only [Act.put]
  refine wpAnyH_ready (rs := [3]) (by kernel_rfl) (by simp) ?_
  refine AllReadyH.cons rfl (fun K hK => ?_) AllReadyH.nil
  go_simp
  go_at_call 16
  refine (HN.out _).mono ?_
  rintro e w3 ⟨rfl, hb3⟩
  go_wp2_with fail
  refine hK.out _ _ (hH.trans (Below.mono hb3 hH.size)) (fun hH => ?_)
  clear hK K
  try simp only [Act.put]
  refine wpAnyH_take (i := 4) (v := .bool true) rfl (by kernel_rfl) (by kernel_rfl) (by kernel_rfl) (fun _ _ _ h => h) ?_ hH ?_
  · refine yields_eqm ?_ (.tmp 11) (.tmp 13) 37 ?_ g.cells g.cells ?_ ?_ true HEQ.out
    all_goals kernel_rfl
  simp only [Act.put]
  refine wpAnyH_take (i := 5) (v := .bool true) rfl (by kernel_rfl) (by kernel_rfl) (by kernel_rfl) (fun _ _ _ h => h) (Or.inl ⟨by rfl, fun w' hw' => by clear hw'; go_simp⟩) hH ?_
  simp only [Act.put]
  refine wpAnyH_take (i := 6) (v := .agg m.cells) rfl (by kernel_rfl) (by kernel_rfl) (by kernel_rfl) (fun _ _ _ h => h) ?_ hH ?_
  · refine yieldsIf_load_mid ?_ 37 (.tmp 2) ?_ w.heap.size 0 ?_ (Array.toList m.cells) _ (fun W hW => Row.range (HRN.out.below hW HRN.out.lt)) Tryd.underlying37 rfl HZM.out
    all_goals kernel_rfl
  simp only [Act.put]
  refine wpAnyH_take (i := 7) (v := .agg e.cells) rfl (by kernel_rfl) (by kernel_rfl) (by kernel_rfl) (fun _ _ _ h => h) ?_ hH ?_
  · refine yieldsIf_load_mid ?_ 24 (.tmp 3) ?_ (w.heap.size + 1) 0 ?_ (Array.toList e.cells) _ (fun W hW => Row.range (HRO.out.below hW HRO.out.lt)) Tryd.underlying24 rfl HZ.out
    all_goals kernel_rfl
  simp only [Act.put]
  refine wpAnyH_take (i := 9) (v := .agg m.cells) rfl (by kernel_rfl) (by kernel_rfl) (by kernel_rfl) (fun _ _ _ h => h) ?_ hH ?_
  · refine yieldsIf_load_mid ?_ 37 (.tmp 2) ?_ w.heap.size 0 ?_ (Array.toList m.cells) _ (fun W hW => Row.range (HRN.out.below hW HRN.out.lt)) Tryd.underlying37 rfl HZM.out
    all_goals kernel_rfl
  simp only [Act.put]
  refine wpAnyH_take (i := 10) (v := .agg e.cells) rfl (by kernel_rfl) (by kernel_rfl) (by kernel_rfl) (fun _ _ _ h => h) ?_ hH ?_
  · refine yieldsIf_load_mid ?_ 24 (.tmp 3) ?_ (w.heap.size + 1) 0 ?_ (Array.toList e.cells) _ (fun W hW => Row.range (HRO.out.below hW HRO.out.lt)) Tryd.underlying24 rfl HZ.out
    all_goals kernel_rfl
  simp only [Act.put]
  refine wpAnyH_ready (rs := [8]) (by kernel_rfl) (by simp) ?_
  refine AllReadyH.cons rfl (fun K hK => ?_) AllReadyH.nil
  rw [if_pos (by kernel_rfl)]
  go_simp
  go_at_call 17
  refine (HP.out _).mono ?_
  rintro e w4 ⟨rfl, hb4⟩
  go_wp2_with fail
  refine hK.out _ _ (hH.trans (Below.mono hb4 hH.size)) (fun hH => ?_)
  clear hK K
  try simp only [Act.put]
  refine wpAnyH_ready (rs := [11]) (by kernel_rfl) (by simp) ?_
  refine AllReadyH.cons rfl (fun K hK => ?_) AllReadyH.nil
  rw [if_pos (by kernel_rfl)]
  go_simp
  go_at_call 18
  refine (HQ.out _).mono ?_
  rintro e w5 ⟨rfl, hb5⟩
  go_wp2_with fail
  refine hK.out _ _ (hH.trans (Below.mono hb5 hH.size)) (fun hH => ?_)
  clear hK K
  try simp only [Act.put]
  refine wpAnyH_take (i := 12) (v := .bool true) rfl (by kernel_rfl) (by kernel_rfl) (by kernel_rfl) (fun _ _ _ h => h) (Or.inl ⟨by kernel_rfl, fun w' hw' => by clear hw'; go_simp⟩) hH ?_
  simp only [Act.put]
  refine wpAnyH_ready (rs := [13]) (by kernel_rfl) (by simp) ?_
  refine AllReadyH.cons rfl (fun K hK => ?_) AllReadyH.nil
  go_simp
  refine hK.out _ _ (hH) (fun hH => ?_)
  clear hK K
  try simp only [Act.put]
  refine wpAnyH_ready (rs := [14]) (by kernel_rfl) (by simp) ?_
  refine AllReadyH.cons rfl (fun K hK => ?_) AllReadyH.nil
  go_simp
  refine hK.out _ _ (hH) (fun hH => ?_)
  clear hK K
  try simp only [Act.put]
  refine wpAnyH_done (by kernel_rfl) ?_ _
  try simp only [Act.put]
  go_wp2_with fail
  go_ret
  exact ⟨rfl, HBB.out.trans (hH.mono HBB.out.size)⟩

set_option maxHeartbeats 1000000 in
theorem efollows_long (m : Mk) (e : En) (w : World) (hf : Fd w) (ha : decide (5000 < (e.body.size : Int)) = true) :
    Calls Tryd.prog 6 #[.agg m.cells, .agg e.cells] w (Yes w) := by
  have HA := hid eawake_any
  have HLa := hid (fun W => elong_any e.body W)
  rw [ha] at HLa
  have HF := hid hf
  have HZ := hid (ecells_size e)
  have HZM := hid (mcells_size m)
  have HC8 : Hid (e.cells.toList[8]? = some (.string e.body)) := hid rfl
  have HB : Hid (Below w.heap.size w ((w.alloc (.cells m.cells 37)).alloc (.cells e.cells 24))) := hid (((Below.refl w.heap.size w).alloc (Nat.le_refl _) _).alloc (by simp) _)
  have HRM : Hid (Row ((w.alloc (.cells m.cells 37)).alloc (.cells e.cells 24)) w.heap.size 37 m.cells.toList) := hid ((Row.new _ _ _).alloc _)
  have HRC : Hid (Row ((w.alloc (.cells m.cells 37)).alloc (.cells e.cells 24)) (w.heap.size + 1) 24 e.cells.toList) := hid (by
    have := Row.new (w.alloc (.cells m.cells 37)) 24 e.cells
    simpa using this)
  clear hf ha
  go_enter Tryd.func6, Tryd.ntmps6
  go_wp2_with (first
    | (go_at_call 7; refine (HA.out _).mono ?_; rintro x w1 ⟨rfl, hb1⟩; have hbb := HB.out.trans (hb1.mono HB.out.size); have hrC := HRC.out.below hb1 HRC.out.lt; have hrM := HRM.out.below hb1 HRM.out.lt; have c8 := hrC.at_ 8 _ HC8.out; clear hb1)
    | (go_at_call 8; refine (HLa.out _).mono ?_; rintro x w' ⟨rfl, rfl⟩))
  go_ret
  exact ⟨rfl, hbb⟩

theorem efollows_law (m : Mk) (_hm : m.fits) (e : En) (he : e.fits) (w : World) (hf : Fd w) : Calls Tryd.prog 6 #[m.val, e.val] w (Yes w) := by
  show Calls Tryd.prog 6 #[.agg m.cells, .agg e.cells] w (Yes w)
  cases la : decide (5000 < (e.body.size : Int)) with
  | true => exact efollows_long m e w hf la
  | false =>
    have HEQ := hid (fun W => eqMk (markE e) (markE e) W)
    simp only [decide_true] at HEQ
    exact efollows_ok m (markE e) e (decide (Fol m e)) w hf (hid (fun W hW => emark_any e he W hW)) (hid (fun W => rmark_any e he W)) (hid (fun W => efol_any m e W)) (hid (fun W => rfol_any m e W)) HEQ la
end Go.Proofs.YtknalgobndbngaaDoor
