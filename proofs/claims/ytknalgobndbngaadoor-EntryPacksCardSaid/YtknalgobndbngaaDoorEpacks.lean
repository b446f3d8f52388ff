/-
  The walk of EntryPacks.
-/
import Derived.Test.YtknalgobndbngaaDoorEturns
import Derived.Test.YtknalgobndbngaaDoorRpk9
namespace Go.Proofs.YtknalgobndbngaaDoor
open Go.RowKit
set_option maxRecDepth 10000

set_option maxHeartbeats 2000000 in
theorem epacks_ok (e : En) (T : ByteArray) (f : Int) (r : Bool) (w : World) (hf : Fd w)
    (HP : Hid (∀ W : World, Fd W → Calls Tryd.prog 9 #[.agg e.cells] W fun x W' => x = .returned (.tuple #[.string T, .int .i64 f]) ∧ Below W.heap.size W W'))
    (HQ : Hid (∀ W : World, Calls Tryd.prog 10 #[.agg e.cells] W fun x W' => x = .returned (.tuple #[.string T, .int .i64 f]) ∧ Below W.heap.size W W'))
    (HR : Hid (∀ W : World, Calls Tryd.prog 11 #[.agg e.cells] W (VE W (.bool r))))
    (HS : Hid (∀ W : World, Calls Tryd.prog 12 #[.agg e.cells] W (VE W (.bool r))))
    (HU : Hid (∀ W : World, Fd W → Calls Tryd.prog 13 #[.string T] W fun x W' => x = .returned (.tuple #[.agg e.cells, .int .i64 0]) ∧ Below W.heap.size W W'))
    (ha : decide (5000 < (e.body.size : Int)) = false) (he : (f != 0) = false) (hT : (T.size : Int) ≤ 376) :
    Calls Tryd.prog 3 #[.agg e.cells] w (Yes w) := by
  have HA := hid eawake_any
  have HLa := hid (fun W => elong_any e.body W)
  rw [ha] at HLa
  have HF := hid hf
  have HZ := hid (ecells_size e)
  have HC8 : Hid (e.cells.toList[8]? = some (.string e.body)) := hid rfl
  have HB := hid ((Below.refl w.heap.size w).alloc (Nat.le_refl _) (.cells e.cells 24))
  have HRC : Hid (Row (w.alloc (.cells e.cells 24)) w.heap.size 24 e.cells.toList) := hid (Row.new _ _ _)
  clear hf ha
  go_enter Tryd.func3, Tryd.ntmps3
  go_wp2_with (first
    | (go_at_call 7; refine (HA.out _).mono ?_; rintro x w1 ⟨rfl, hb1⟩; have hbb := HB.out.trans (hb1.mono HB.out.size); have hrC := HRC.out.below hb1 HRC.out.lt; have c8 := hrC.at_ 8 _ HC8.out; clear hb1)
    | (go_at_call 8; refine (HLa.out _).mono ?_; rintro x w' ⟨rfl, rfl⟩)
    | (refine wpList_load_row rfl 24 (.tmp 1) rfl w.heap.size rfl 24 e.cells (0, 0) _ hrC.arr Tryd.underlying24 rfl HZ.out ?_)
    | (go_at_call 9; refine (HP.out _ (HF.out.below hbb HF.out.1)).mono ?_; rintro x w2 ⟨rfl, hb2⟩; have hbb2 := hbb.trans (hb2.mono hbb.size); have hrC2 := hrC.below hb2 hrC.lt; clear hbb hrC hb2 c8; have hbb := hbb2; have hrC := hrC2; clear hbb2 hrC2)
    | (go_at_call 10; refine (HQ.out _).mono ?_; rintro x w3 ⟨rfl, hb3⟩; have hbb3 := hbb.trans (hb3.mono hbb.size); have hrC3 := hrC.below hb3 hrC.lt; clear hbb hrC hb3; have hbb := hbb3; have hrC := hrC3; clear hbb3 hrC3))
  try simp only [Act.put]
  have HBB := hid hbb
  have HRO := hid hrC
  clear hbb hrC
  go_cut [38] (fun v wx => v = .bool false ∧ Below w3.heap.size w3 wx)
  case first =>
    refine wp_region_held_drew (S := fun W => Below w3.heap.size w3 W) (by kernel_rfl) ((Below.refl _ _).drew) (fun hH => ?_)
    refine wpAnyH_take (i := 0) (v := .string T) rfl (by kernel_rfl) (by kernel_rfl) (by kernel_rfl) (fun _ _ _ h => h) (Or.inl ⟨by rfl, fun w' hw' => by clear hw'; go_simp⟩) hH ?_
    simp only [Act.put]
    refine wpAnyH_take (i := 1) (v := .string T) rfl (by kernel_rfl) (by kernel_rfl) (by kernel_rfl) (fun _ _ _ h => h) (Or.inl ⟨by rfl, fun w' hw' => by clear hw'; go_simp⟩) hH ?_
    simp only [Act.put]
    refine wpAnyH_take (i := 2) (v := .bool false) rfl (by kernel_rfl) (by kernel_rfl) (by kernel_rfl) (fun _ _ _ h => h) (Or.inl ⟨by rfl, fun w' hw' => by clear hw'; go_simp⟩) hH ?_
    simp only [Act.put]
    refine wpAnyH_take (i := 3) (v := .bool false) rfl (by kernel_rfl) (by kernel_rfl) (by kernel_rfl) (fun _ _ _ h => h) (Or.inl ⟨by rfl, fun w' hw' => by clear hw'; go_simp⟩) hH ?_
    simp only [Act.put]
    refine wpAnyH_take (i := 4) (v := .int .i64 f) rfl (by kernel_rfl) (by kernel_rfl) (by kernel_rfl) (fun _ _ _ h => h) (Or.inl ⟨by kernel_rfl, fun w' hw' => by clear hw'; go_simp⟩) hH ?_
    simp only [Act.put]
    refine wpAnyH_take (i := 5) (v := .int .i64 f) rfl (by kernel_rfl) (by kernel_rfl) (by kernel_rfl) (fun _ _ _ h => h) (Or.inl ⟨by kernel_rfl, fun w' hw' => by clear hw'; go_simp⟩) hH ?_
    simp only [Act.put]
    refine wpAnyH_take (i := 6) (v := .bool false) rfl (by kernel_rfl) (by kernel_rfl) (by kernel_rfl) (fun _ _ _ h => h) (Or.inl ⟨by kernel_rfl, fun w' hw' => by clear hw'; go_simp⟩) hH ?_
    simp only [Act.put]
    refine wpAnyH_take (i := 7) (v := .bool false) rfl (by kernel_rfl) (by kernel_rfl) (by kernel_rfl) (fun _ _ _ h => h) (Or.inl ⟨by kernel_rfl, fun w' hw' => by clear hw'; go_simp⟩) hH ?_
    simp only [Act.put]
    refine wpAnyH_take (i := 8) (v := .bool false) rfl (by kernel_rfl) (by kernel_rfl) (by kernel_rfl) (fun _ _ _ h => h) (Or.inl ⟨by kernel_rfl, fun w' hw' => by clear hw'; go_simp⟩) hH ?_
    simp only [Act.put]
    refine wpAnyH_take (i := 9) (v := .agg e.cells) rfl (by kernel_rfl) (by kernel_rfl) (by kernel_rfl) (fun _ _ _ h => h) ?_ hH ?_
    · refine yieldsIf_load_mid ?_ 24 (.tmp 1) ?_ w.heap.size 0 ?_ (Array.toList e.cells) _ (fun W hW => Row.range (HRO.out.below hW HRO.out.lt)) Tryd.underlying24 rfl HZ.out
      all_goals kernel_rfl
    simp only [Act.put]
    refine wpAnyH_take (i := 11) (v := .agg e.cells) rfl (by kernel_rfl) (by kernel_rfl) (by kernel_rfl) (fun _ _ _ h => h) ?_ hH ?_
    · refine yieldsIf_load_mid ?_ 24 (.tmp 1) ?_ w.heap.size 0 ?_ (Array.toList e.cells) _ (fun W hW => Row.range (HRO.out.below hW HRO.out.lt)) Tryd.underlying24 rfl HZ.out
      all_goals kernel_rfl
    simp only [Act.put]
    refine wpAnyH_ready (rs := [10]) (by kernel_rfl) (by simp) ?_
    refine AllReadyH.cons rfl (fun K hK => ?_) AllReadyH.nil
    rw [if_pos (by kernel_rfl)]
    go_simp
    go_at_call 11
    refine (HR.out _).mono ?_
    rintro e w4 ⟨rfl, hb4⟩
    go_wp2_with fail
    refine hK.out _ _ (hH.trans (Below.mono hb4 hH.size)) (fun hH => ?_)
    clear hK K
    try simp only [Act.put]
    refine wpAnyH_ready (rs := [12]) (by kernel_rfl) (by simp) ?_
    refine AllReadyH.cons rfl (fun K hK => ?_) AllReadyH.nil
    rw [if_pos (by kernel_rfl)]
    go_simp
    go_at_call 12
    refine (HS.out _).mono ?_
    rintro e w5 ⟨rfl, hb5⟩
    go_wp2_with fail
    refine hK.out _ _ (hH.trans (Below.mono hb5 hH.size)) (fun hH => ?_)
    clear hK K
    try simp only [Act.put]
    refine wpAnyH_ready (rs := [13]) (by kernel_rfl) (by simp) ?_
    refine AllReadyH.cons rfl (fun K hK => ?_) AllReadyH.nil
    go_simp
    refine hK.out _ _ (hH) (fun hH => ?_)
    clear hK K
    try simp only [Act.put]
    refine wpAnyH_ready (rs := [14]) (by kernel_rfl) (by simp) ?_
    refine AllReadyH.cons rfl (fun K hK => ?_) AllReadyH.nil
    go_simp
    refine hK.out _ _ (hH) (fun hH => ?_)
    clear hK K
    try simp only [Act.put]
    refine wpAnyH_done (by kernel_rfl) ?_ _
    try simp only [Act.put]
    go_wp2_with fail
    go_meet
    case rel => exact ⟨rfl, hH⟩
  case rest =>
  obtain ⟨rfl, hbx⟩ := hcut
  have hbb := HBB.out.trans (hbx.mono HBB.out.size)
  have hrC := HRO.out.below hbx HRO.out.lt
  clear hbx
  go_wp2_with (first
    | (refine wpList_load_row rfl 24 (.tmp 1) rfl w.heap.size rfl 24 e.cells (0, 0) _ hrC.arr Tryd.underlying24 rfl HZ.out ?_)
    | (refine wpList_load_row rfl 24 (.tmp 7) rfl w6.heap.size rfl 24 e.cells (0, 0) _ hr7.arr Tryd.underlying24 rfl HZ.out ?_)
    | (go_at_call 13; refine (HU.out _ (HF.out.below hbb HF.out.1)).mono ?_; rintro x w6 ⟨rfl, hb6⟩; have hbb6 := hbb.trans (hb6.mono hbb.size); have hrC6 := hrC.below hb6 hrC.lt; clear hbb hrC hb6; have hbb := hbb6; have hrC := hrC6; clear hbb6 hrC6)
    | (refine wpl_store_st rfl (.tmp 7) (.tmp 46) rfl HZ.out w6.heap.size en0.cells e.cells rfl rfl (Row.new _ _ _) ?_ (hid rfl) (hid rfl) (hid (ecells_one e)); intro w7 hr7 hg7; have hlt6 := hrC.lt; replace hrC := (hrC.alloc _).grown hg7 (by intro e; have := Option.some.inj e; omega); replace hbb := (hbb.alloc hbb.size _).trans (below_grown hg7 hbb.size (by simp; have := hbb.size; omega)); clear hg7)
    | (refine wpl_eqe rfl e (.tmp 48) (.tmp 49) _ rfl rfl rfl ?_))
  go_ret
  exact ⟨rfl, hbb⟩

set_option maxHeartbeats 2000000 in
theorem epacks_err (e : En) (T : ByteArray) (f : Int) (r : Bool) (w : World) (hf : Fd w)
    (HP : Hid (∀ W : World, Fd W → Calls Tryd.prog 9 #[.agg e.cells] W fun x W' => x = .returned (.tuple #[.string T, .int .i64 f]) ∧ Below W.heap.size W W'))
    (HQ : Hid (∀ W : World, Calls Tryd.prog 10 #[.agg e.cells] W fun x W' => x = .returned (.tuple #[.string T, .int .i64 f]) ∧ Below W.heap.size W W'))
    (HR : Hid (∀ W : World, Calls Tryd.prog 11 #[.agg e.cells] W (VE W (.bool r))))
    (HS : Hid (∀ W : World, Calls Tryd.prog 12 #[.agg e.cells] W (VE W (.bool r))))
    (ha : decide (5000 < (e.body.size : Int)) = false) (he : (f != 0) = true) (hT : T = ⟨#[]⟩) :
    Calls Tryd.prog 3 #[.agg e.cells] w (Yes w) := by
  have HA := hid eawake_any
  have HLa := hid (fun W => elong_any e.body W)
  rw [ha] at HLa
  have HF := hid hf
  have HZ := hid (ecells_size e)
  have HC8 : Hid (e.cells.toList[8]? = some (.string e.body)) := hid rfl
  have HB := hid ((Below.refl w.heap.size w).alloc (Nat.le_refl _) (.cells e.cells 24))
  have HRC : Hid (Row (w.alloc (.cells e.cells 24)) w.heap.size 24 e.cells.toList) := hid (Row.new _ _ _)
  clear hf ha
  have HTE := hid hT
  clear hT
  go_enter Tryd.func3, Tryd.ntmps3
  go_wp2_with (first
    | (go_at_call 7; refine (HA.out _).mono ?_; rintro x w1 ⟨rfl, hb1⟩; have hbb := HB.out.trans (hb1.mono HB.out.size); have hrC := HRC.out.below hb1 HRC.out.lt; have c8 := hrC.at_ 8 _ HC8.out; clear hb1)
    | (go_at_call 8; refine (HLa.out _).mono ?_; rintro x w' ⟨rfl, rfl⟩)
    | (refine wpList_load_row rfl 24 (.tmp 1) rfl w.heap.size rfl 24 e.cells (0, 0) _ hrC.arr Tryd.underlying24 rfl HZ.out ?_)
    | (go_at_call 9; refine (HP.out _ (HF.out.below hbb HF.out.1)).mono ?_; rintro x w2 ⟨rfl, hb2⟩; have hbb2 := hbb.trans (hb2.mono hbb.size); have hrC2 := hrC.below hb2 hrC.lt; clear hbb hrC hb2 c8; have hbb := hbb2; have hrC := hrC2; clear hbb2 hrC2)
    | (go_at_call 10; refine (HQ.out _).mono ?_; rintro x w3 ⟨rfl, hb3⟩; have hbb3 := hbb.trans (hb3.mono hbb.size); have hrC3 := hrC.below hb3 hrC.lt; clear hbb hrC hb3; have hbb := hbb3; have hrC := hrC3; clear hbb3 hrC3))
  try simp only [Act.put]
  have HBB := hid hbb
  have HRO := hid hrC
  clear hbb hrC
  go_cut [38] (fun v wx => v = .bool false ∧ Below w3.heap.size w3 wx)
  case first =>
    refine wp_region_held_drew (S := fun W => Below w3.heap.size w3 W) (by kernel_rfl) ((Below.refl _ _).drew) (fun hH => ?_)
    refine wpAnyH_take (i := 0) (v := .string T) rfl (by kernel_rfl) (by kernel_rfl) (by kernel_rfl) (fun _ _ _ h => h) (Or.inl ⟨by rfl, fun w' hw' => by clear hw'; go_simp⟩) hH ?_
    simp only [Act.put]
    refine wpAnyH_take (i := 1) (v := .string T) rfl (by kernel_rfl) (by kernel_rfl) (by kernel_rfl) (fun _ _ _ h => h) (Or.inl ⟨by rfl, fun w' hw' => by clear hw'; go_simp⟩) hH ?_
    simp only [Act.put]
    refine wpAnyH_take (i := 2) (v := .bool false) rfl (by kernel_rfl) (by kernel_rfl) (by kernel_rfl) (fun _ _ _ h => h) (Or.inl ⟨by rfl, fun w' hw' => by clear hw'; go_simp⟩) hH ?_
    simp only [Act.put]
    refine wpAnyH_take (i := 3) (v := .bool false) rfl (by kernel_rfl) (by kernel_rfl) (by kernel_rfl) (fun _ _ _ h => h) (Or.inl ⟨by rfl, fun w' hw' => by clear hw'; go_simp⟩) hH ?_
    simp only [Act.put]
    refine wpAnyH_take (i := 4) (v := .int .i64 f) rfl (by kernel_rfl) (by kernel_rfl) (by kernel_rfl) (fun _ _ _ h => h) (Or.inl ⟨by kernel_rfl, fun w' hw' => by clear hw'; go_simp⟩) hH ?_
    simp only [Act.put]
    refine wpAnyH_take (i := 5) (v := .int .i64 f) rfl (by kernel_rfl) (by kernel_rfl) (by kernel_rfl) (fun _ _ _ h => h) (Or.inl ⟨by kernel_rfl, fun w' hw' => by clear hw'; go_simp⟩) hH ?_
    simp only [Act.put]
    refine wpAnyH_take (i := 6) (v := .bool false) rfl (by kernel_rfl) (by kernel_rfl) (by kernel_rfl) (fun _ _ _ h => h) (Or.inl ⟨by kernel_rfl, fun w' hw' => by clear hw'; go_simp⟩) hH ?_
    simp only [Act.put]
    refine wpAnyH_take (i := 7) (v := .bool false) rfl (by kernel_rfl) (by kernel_rfl) (by kernel_rfl) (fun _ _ _ h => h) (Or.inl ⟨by kernel_rfl, fun w' hw' => by clear hw'; go_simp⟩) hH ?_
    simp only [Act.put]
    refine wpAnyH_take (i := 8) (v := .bool false) rfl (by kernel_rfl) (by kernel_rfl) (by kernel_rfl) (fun _ _ _ h => h) (Or.inl ⟨by kernel_rfl, fun w' hw' => by clear hw'; go_simp⟩) hH ?_
    simp only [Act.put]
    refine wpAnyH_take (i := 9) (v := .agg e.cells) rfl (by kernel_rfl) (by kernel_rfl) (by kernel_rfl) (fun _ _ _ h => h) ?_ hH ?_
    · refine yieldsIf_load_mid ?_ 24 (.tmp 1) ?_ w.heap.size 0 ?_ (Array.toList e.cells) _ (fun W hW => Row.range (HRO.out.below hW HRO.out.lt)) Tryd.underlying24 rfl HZ.out
      all_goals kernel_rfl
    simp only [Act.put]
    refine wpAnyH_take (i := 11) (v := .agg e.cells) rfl (by kernel_rfl) (by kernel_rfl) (by kernel_rfl) (fun _ _ _ h => h) ?_ hH ?_
    · refine yieldsIf_load_mid ?_ 24 (.tmp 1) ?_ w.heap.size 0 ?_ (Array.toList e.cells) _ (fun W hW => Row.range (HRO.out.below hW HRO.out.lt)) Tryd.underlying24 rfl HZ.out
      all_goals kernel_rfl
    simp only [Act.put]
    refine wpAnyH_ready (rs := [10]) (by kernel_rfl) (by simp) ?_
    refine AllReadyH.cons rfl (fun K hK => ?_) AllReadyH.nil
    rw [if_pos (by kernel_rfl)]
    go_simp
    go_at_call 11
    refine (HR.out _).mono ?_
    rintro e w4 ⟨rfl, hb4⟩
    go_wp2_with fail
    refine hK.out _ _ (hH.trans (Below.mono hb4 hH.size)) (fun hH => ?_)
    clear hK K
    try simp only [Act.put]
    refine wpAnyH_ready (rs := [12]) (by kernel_rfl) (by simp) ?_
    refine AllReadyH.cons rfl (fun K hK => ?_) AllReadyH.nil
    rw [if_pos (by kernel_rfl)]
    go_simp
    go_at_call 12
    refine (HS.out _).mono ?_
    rintro e w5 ⟨rfl, hb5⟩
    go_wp2_with fail
    refine hK.out _ _ (hH.trans (Below.mono hb5 hH.size)) (fun hH => ?_)
    clear hK K
    try simp only [Act.put]
    refine wpAnyH_ready (rs := [13]) (by kernel_rfl) (by simp) ?_
    refine AllReadyH.cons rfl (fun K hK => ?_) AllReadyH.nil
    go_simp
    refine hK.out _ _ (hH) (fun hH => ?_)
    clear hK K
    try simp only [Act.put]
    refine wpAnyH_ready (rs := [14]) (by kernel_rfl) (by simp) ?_
    refine AllReadyH.cons rfl (fun K hK => ?_) AllReadyH.nil
    go_simp
    refine hK.out _ _ (hH) (fun hH => ?_)
    clear hK K
    try simp only [Act.put]
    refine wpAnyH_done (by kernel_rfl) ?_ _
    try simp only [Act.put]
    go_wp2_with fail
    go_meet
    case rel => exact ⟨rfl, hH⟩
  case rest =>
  obtain ⟨rfl, hbx⟩ := hcut
  have hbb := HBB.out.trans (hbx.mono HBB.out.size)
  rw [HTE.out]
  go_wp2_with fail
  go_ret
  exact ⟨rfl, hbb⟩

set_option maxHeartbeats 1000000 in
theorem epacks_long (e : En) (w : World) (hf : Fd w) (ha : decide (5000 < (e.body.size : Int)) = true) :
    Calls Tryd.prog 3 #[.agg e.cells] w (Yes w) := by
  have HA := hid eawake_any
  have HLa := hid (fun W => elong_any e.body W)
  rw [ha] at HLa
  have HF := hid hf
  have HZ := hid (ecells_size e)
  have HC8 : Hid (e.cells.toList[8]? = some (.string e.body)) := hid rfl
  have HB := hid ((Below.refl w.heap.size w).alloc (Nat.le_refl _) (.cells e.cells 24))
  have HRC : Hid (Row (w.alloc (.cells e.cells 24)) w.heap.size 24 e.cells.toList) := hid (Row.new _ _ _)
  clear hf ha
  go_enter Tryd.func3, Tryd.ntmps3
  go_wp2_with (first
    | (go_at_call 7; refine (HA.out _).mono ?_; rintro x w1 ⟨rfl, hb1⟩; have hbb := HB.out.trans (hb1.mono HB.out.size); have hrC := HRC.out.below hb1 HRC.out.lt; have c8 := hrC.at_ 8 _ HC8.out; clear hb1)
    | (go_at_call 8; refine (HLa.out _).mono ?_; rintro x w' ⟨rfl, rfl⟩))
  go_ret
  exact ⟨rfl, hbb⟩

theorem epacks_any (e : En) (he : e.fits) (w : World) (hf : Fd w) : Calls Tryd.prog 3 #[e.val] w (Yes w) := by
  obtain ⟨T, f, e1, P1⟩ := epack_of e
  have HQ : Hid (∀ W : World, Calls Tryd.prog 10 #[.agg e.cells] W fun x W' => x = .returned (.tuple #[.string T, .int .i64 f]) ∧ Below W.heap.size W W') := hid fun W => by
    have := rpack9_any e he W
    rw [e1] at this
    unfold SN at this
    rw [mk_sb] at this
    exact this
  have HR : Hid (∀ W : World, Calls Tryd.prog 11 #[.agg e.cells] W (VE W (.bool (decide (Rt e))))) := hid fun W => eright_any e W
  have HS : Hid (∀ W : World, Calls Tryd.prog 12 #[.agg e.cells] W (VE W (.bool (decide (Rt e))))) := hid fun W => rright9_any e W
  show Calls Tryd.prog 3 #[.agg e.cells] w (Yes w)
  cases la : decide (5000 < (e.body.size : Int)) with
  | true => exact epacks_long e w hf la
  | false =>
    by_cases h0 : f = 0
    · subst h0
      obtain ⟨p1, p2⟩ := packE_len e1
      rw [sb_len] at p1
      have HU := eunp_of T _ (unpackE_pack he e1) (by omega)
      exact epacks_ok e T 0 _ w hf (hid P1) HQ HR HS HU la rfl (by omega)
    · have hT : T = ⟨#[]⟩ := by rw [← mk_sb T, packE_err he e1 h0]
      exact epacks_err e T f _ w hf (hid P1) HQ HR HS la (by simpa using h0) hT
end Go.Proofs.YtknalgobndbngaaDoor
