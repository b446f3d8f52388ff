/-
  The walk of SuperPacks.
-/
import Derived.Test.YtogchfpecbmocaaM21
import Derived.Test.YtogchfpecbmocaaM19
namespace Go.Proofs.Ytogchfpecbmocaa
open Go.RowKit
set_option maxRecDepth 10000

set_option maxHeartbeats 4000000 in
theorem packs_law (s : Su) (hf : s.fits) (w : World) : Calls Try.prog 3 #[s.val] w (VE w (.bool true)) := by
  have HZS := hid superSize
  have HAW := hid (fun W => awake_any W)
  have HP : Hid (∀ W, Calls Try.prog 9 #[.agg s.cells] W fun e w' => e = .returned (.tuple #[.string ⟨(packU s).1.toArray⟩, .int .i64 (packU s).2]) ∧ Below W.heap.size W w') := hid fun W => spack_any s hf W
  have HRP : Hid (∀ W, Calls Try.prog 10 #[.agg s.cells] W fun e w' => e = .returned (.tuple #[.string ⟨(packU s).1.toArray⟩, .int .i64 (packU s).2]) ∧ Below W.heap.size W w') := hid fun W => rpack_any s hf W
  have HRI : Hid (∀ W, Calls Try.prog 11 #[.agg s.cells] W (VE W (.bool (decide (SR s))))) := hid fun W => right_any s W
  have HRR2 : Hid (∀ W, Calls Try.prog 12 #[.agg s.cells] W (VE W (.bool (decide (SR s))))) := hid fun W => rright_any s W
  have HNX : Hid (∀ W, Calls Try.prog 13 #[.agg s.cells] W (VE W (.agg (nextU s).cells))) := hid fun W => snext_any s hf W
  have HRN : Hid (∀ W, Calls Try.prog 14 #[.agg s.cells] W (VE W (.agg (nextU s).cells))) := hid fun W => rnext_any s hf W
  have e0 : packU s = if SR s then (s.bytes, 0) else ([], 4) := rfl
  generalize nextU s = n at *
  show Calls Try.prog 3 #[.agg s.cells] w _
  by_cases h : SR s
  · have HU : Hid (∀ W, Calls Try.prog 15 #[.string ⟨s.bytes.toArray⟩] W fun e w' => e = .returned (.tuple #[.agg s.cells, .int .i64 0]) ∧ Below W.heap.size W w') := hid fun W => by
      have := sunpack_any ⟨s.bytes.toArray⟩ W
      rw [sb_mk, unpack_pack s hf h] at this
      exact this
    rw [e0, if_pos h] at HP HRP
    rw [decide_eq_true h] at HRI HRR2
    simp only at HP HRP
    generalize (⟨s.bytes.toArray⟩ : ByteArray) = B at *
    clear e0 h hf
    go_enter Try.func3, Try.ntmps3
    go_wp2_with (first
      | (go_at_call 8; refine (HAW.out _).mono ?_; rintro e w1 ⟨rfl, hb1⟩; have r1 := (Row.new w 27 s.cells).below hb1 (by simp); have bb := ((Below.refl w.heap.size w).alloc (Nat.le_refl _) (.cells s.cells 27)).trans (hb1.mono (by simp)); clear hb1)
      | (refine wpList_load_row rfl 27 (.tmp 1) rfl w.heap.size rfl 27 s.cells (0, 0) _ r1.arr Try.underlying27 rfl HZS.out ?_)
      | (go_at_call 9; refine (HP.out _).mono ?_; rintro e w2 ⟨rfl, hb2⟩; replace r1 := r1.below hb2 r1.lt; replace bb := bb.trans (hb2.mono bb.size); clear hb2)
      | (go_at_call 10; refine (HRP.out _).mono ?_; rintro e w3 ⟨rfl, hb3⟩; replace r1 := r1.below hb3 r1.lt; replace bb := bb.trans (hb3.mono bb.size); clear hb3))
    have HBE := hid bb
    have HRR := hid r1
    clear bb
    refine wp_region_held_drew (S := fun W => Row W w.heap.size 27 s.cells.toList ∧ Below w.heap.size w W) (by kernel_rfl) (⟨r1.drew, HBE.out.drew⟩) (fun hH => ?_)
    refine wpAnyH_take (i := 0) (v := .string B) rfl (by kernel_rfl) (by kernel_rfl) (by kernel_rfl) (fun _ _ _ h => h) (Or.inl ⟨by rfl, fun w' hw' => by clear hw'; go_simp⟩) hH ?_
    simp only [Act.put]
    refine wpAnyH_take (i := 1) (v := .string B) rfl (by kernel_rfl) (by kernel_rfl) (by kernel_rfl) (fun _ _ _ h => h) (Or.inl ⟨by rfl, fun w' hw' => by clear hw'; go_simp⟩) hH ?_
    simp only [Act.put]
    refine wpAnyH_take (i := 2) (v := .bool false) rfl (by kernel_rfl) (by kernel_rfl) (by kernel_rfl) (fun _ _ _ h => h) (Or.inl ⟨by rfl, fun w' hw' => by clear hw'; go_simp⟩) hH ?_
    simp only [Act.put]
    refine wpAnyH_take (i := 3) (v := .bool false) rfl (by kernel_rfl) (by kernel_rfl) (by kernel_rfl) (fun _ _ _ h => h) (Or.inl ⟨by rfl, fun w' hw' => by clear hw'; go_simp⟩) hH ?_
    simp only [Act.put]
    refine wpAnyH_take (i := 4) (v := .int .i64 0) rfl (by kernel_rfl) (by kernel_rfl) (by kernel_rfl) (fun _ _ _ h => h) (Or.inl ⟨by kernel_rfl, fun w' hw' => by clear hw'; go_simp⟩) hH ?_
    simp only [Act.put]
    refine wpAnyH_take (i := 5) (v := .int .i64 0) rfl (by kernel_rfl) (by kernel_rfl) (by kernel_rfl) (fun _ _ _ h => h) (Or.inl ⟨by kernel_rfl, fun w' hw' => by clear hw'; go_simp⟩) hH ?_
    simp only [Act.put]
    refine wpAnyH_take (i := 6) (v := .bool false) rfl (by kernel_rfl) (by kernel_rfl) (by kernel_rfl) (fun _ _ _ h => h) (Or.inl ⟨by kernel_rfl, fun w' hw' => by clear hw'; go_simp⟩) hH ?_
    simp only [Act.put]
    refine wpAnyH_take (i := 7) (v := .bool false) rfl (by kernel_rfl) (by kernel_rfl) (by kernel_rfl) (fun _ _ _ h => h) (Or.inl ⟨by rfl, fun w' hw' => by clear hw'; go_simp⟩) hH ?_
    simp only [Act.put]
    refine wpAnyH_take (i := 8) (v := .bool false) rfl (by kernel_rfl) (by kernel_rfl) (by kernel_rfl) (fun _ _ _ h => h) (Or.inl ⟨by rfl, fun w' hw' => by clear hw'; go_simp⟩) hH ?_
    simp only [Act.put]
    refine wpAnyH_take (i := 9) (v := .agg s.cells) rfl (by kernel_rfl) (by kernel_rfl) (by kernel_rfl) (fun _ _ _ h => h) ?_ hH ?_
    · refine yieldsIf_load_mid ?_ 27 (.tmp 1) ?_ w.heap.size 0 ?_ (Array.toList s.cells) _ (fun W hW => Row.range (hW.1)) Try.underlying27 rfl (by exact HZS.out)
      all_goals kernel_rfl
    simp only [Act.put]
    refine wpAnyH_take (i := 11) (v := .agg s.cells) rfl (by kernel_rfl) (by kernel_rfl) (by kernel_rfl) (fun _ _ _ h => h) ?_ hH ?_
    · refine yieldsIf_load_mid ?_ 27 (.tmp 1) ?_ w.heap.size 0 ?_ (Array.toList s.cells) _ (fun W hW => Row.range (hW.1)) Try.underlying27 rfl (by exact HZS.out)
      all_goals kernel_rfl
    simp only [Act.put]
    refine wpAnyH_ready (rs := [10]) (by kernel_rfl) (by simp) ?_
    refine AllReadyH.cons rfl (fun K hK => ?_) AllReadyH.nil
    rw [if_pos (by kernel_rfl)]
    go_simp
    go_at_call 11
    refine (HRI.out _).mono ?_
    rintro e w4 ⟨rfl, hb4⟩
    go_wp2_with fail
    refine hK.out _ _ (⟨hH.1.below hb4 hH.1.lt, hH.2.trans (hb4.mono hH.2.size)⟩) (fun hH => ?_)
    clear hK K
    try simp only [Act.put]
    refine wpAnyH_ready (rs := [12]) (by kernel_rfl) (by simp) ?_
    refine AllReadyH.cons rfl (fun K hK => ?_) AllReadyH.nil
    rw [if_pos (by kernel_rfl)]
    go_simp
    go_at_call 12
    refine (HRR2.out _).mono ?_
    rintro e w5 ⟨rfl, hb5⟩
    go_wp2_with fail
    refine hK.out _ _ (⟨hH.1.below hb5 hH.1.lt, hH.2.trans (hb5.mono hH.2.size)⟩) (fun hH => ?_)
    clear hK K
    try simp only [Act.put]
    refine wpAnyH_take (i := 13) (v := .bool false) rfl (by kernel_rfl) (by kernel_rfl) (by kernel_rfl) (fun _ _ _ h => h) (Or.inl ⟨by kernel_rfl, fun w' _ => by kernel_rfl⟩) hH ?_
    simp only [Act.put]
    refine wpAnyH_take (i := 14) (v := .bool false) rfl (by kernel_rfl) (by kernel_rfl) (by kernel_rfl) (fun _ _ _ h => h) (Or.inl ⟨by kernel_rfl, fun w' _ => by kernel_rfl⟩) hH ?_
    simp only [Act.put]
    refine wpAnyH_take (i := 15) (v := .bool false) rfl (by kernel_rfl) (by kernel_rfl) (by kernel_rfl) (fun _ _ _ h => h) (Or.inl ⟨by kernel_rfl, fun w' _ => by kernel_rfl⟩) hH ?_
    simp only [Act.put]
    refine wpAnyH_take (i := 16) (v := .agg s.cells) rfl (by kernel_rfl) (by kernel_rfl) (by kernel_rfl) (fun _ _ _ h => h) ?_ hH ?_
    · refine yieldsIf_load_mid ?_ 27 (.tmp 1) ?_ w.heap.size 0 ?_ (Array.toList s.cells) _ (fun W hW => Row.range (hW.1)) Try.underlying27 rfl (by exact HZS.out)
      all_goals kernel_rfl
    simp only [Act.put]
    refine wpAnyH_take (i := 18) (v := .agg s.cells) rfl (by kernel_rfl) (by kernel_rfl) (by kernel_rfl) (fun _ _ _ h => h) ?_ hH ?_
    · refine yieldsIf_load_mid ?_ 27 (.tmp 1) ?_ w.heap.size 0 ?_ (Array.toList s.cells) _ (fun W hW => Row.range (hW.1)) Try.underlying27 rfl (by exact HZS.out)
      all_goals kernel_rfl
    simp only [Act.put]
    refine wpAnyH_ready (rs := [17]) (by kernel_rfl) (by simp) ?_
    refine AllReadyH.cons rfl (fun K hK => ?_) AllReadyH.nil
    rw [if_pos (by kernel_rfl)]
    go_simp
    go_at_call 13
    refine (HNX.out _).mono ?_
    rintro e w6 ⟨rfl, hb6⟩
    go_wp2_with fail
    refine hK.out _ _ (⟨hH.1.below hb6 hH.1.lt, hH.2.trans (hb6.mono hH.2.size)⟩) (fun hH => ?_)
    clear hK K
    try simp only [Act.put]
    refine wpAnyH_ready (rs := [19]) (by kernel_rfl) (by simp) ?_
    refine AllReadyH.cons rfl (fun K hK => ?_) AllReadyH.nil
    rw [if_pos (by kernel_rfl)]
    go_simp
    go_at_call 14
    refine (HRN.out _).mono ?_
    rintro e w7 ⟨rfl, hb7⟩
    go_wp2_with fail
    refine hK.out _ _ (⟨hH.1.below hb7 hH.1.lt, hH.2.trans (hb7.mono hH.2.size)⟩) (fun hH => ?_)
    clear hK K
    try simp only [Act.put]
    refine wpAnyH_take (i := 20) (v := .bool (!true)) rfl (by kernel_rfl) (by kernel_rfl) (by kernel_rfl) (fun _ _ _ h => h) (yields_nesu (by kernel_rfl) n n true (by simp) (.tmp 38) (.tmp 40) _ rfl (by kernel_rfl) (by kernel_rfl)) hH ?_
    simp only [Act.put]
    refine wpAnyH_ready (rs := [21]) (by kernel_rfl) (by simp) ?_
    refine AllReadyH.cons rfl (fun K hK => ?_) AllReadyH.nil
    go_simp
    refine hK.out _ _ (hH) (fun hH => ?_)
    clear hK K
    try simp only [Act.put]
    refine wpAnyH_done (by kernel_rfl) ?_ _
    try simp only [Act.put]
    have R7 := hid hH.1
    have B7 := hid hH.2
    clear hH
    go_wp2_with (first
      | (refine wpList_load_row rfl 27 (.tmp 1) rfl w.heap.size rfl 27 s.cells (0, 0) _ r9.arr Try.underlying27 rfl HZS.out ?_)
      | (go_at_call 15; refine (HU.out _).mono ?_; rintro e w8 ⟨rfl, hb8⟩; have r8 := R7.out.below hb8 R7.out.lt; have bb8 := B7.out.trans (hb8.mono B7.out.size))
      | (refine wpl_store_st rfl (.tmp 7) (.tmp 50) rfl (n := 17) HZS.out w8.heap.size su0.cells s.cells rfl rfl (Row.new _ _ _) ?_ (hid rfl) (hid rfl) (cells_one _); intro w9 HR9 HB9; have bb9 := (bb8.alloc bb8.size (.cells su0.cells 27)).trans (below_grown HB9 bb8.size (by have := bb8.size; simp; omega)); have r9 := (r8.alloc (.cells su0.cells 27)).grown HB9 (by have := r8.lt; intro e; have := Option.some.inj e; omega))
      | (refine wpList_load_row rfl 27 (.tmp 7) rfl w8.heap.size rfl 27 s.cells (0, 0) _ HR9.arr Try.underlying27 rfl HZS.out ?_)
      | (refine wpl_eqsu rfl s s true (by simp) (.tmp 52) (.tmp 53) _ rfl rfl rfl ?_))
    go_ret
    exact ⟨rfl, bb9⟩
  · rw [e0, if_neg h] at HP HRP
    rw [decide_eq_false h] at HRI HRR2
    simp only at HP HRP
    clear e0 h hf
    go_enter Try.func3, Try.ntmps3
    go_wp2_with (first
      | (go_at_call 8; refine (HAW.out _).mono ?_; rintro e w1 ⟨rfl, hb1⟩; have r1 := (Row.new w 27 s.cells).below hb1 (by simp); have bb := ((Below.refl w.heap.size w).alloc (Nat.le_refl _) (.cells s.cells 27)).trans (hb1.mono (by simp)); clear hb1)
      | (refine wpList_load_row rfl 27 (.tmp 1) rfl w.heap.size rfl 27 s.cells (0, 0) _ r1.arr Try.underlying27 rfl HZS.out ?_)
      | (go_at_call 9; refine (HP.out _).mono ?_; rintro e w2 ⟨rfl, hb2⟩; replace r1 := r1.below hb2 r1.lt; replace bb := bb.trans (hb2.mono bb.size); clear hb2)
      | (go_at_call 10; refine (HRP.out _).mono ?_; rintro e w3 ⟨rfl, hb3⟩; replace r1 := r1.below hb3 r1.lt; replace bb := bb.trans (hb3.mono bb.size); clear hb3))
    have HBE := hid bb
    have HRR := hid r1
    clear bb
    refine wp_region_held_drew (S := fun W => Row W w.heap.size 27 s.cells.toList ∧ Below w.heap.size w W) (by kernel_rfl) (⟨r1.drew, HBE.out.drew⟩) (fun hH => ?_)
    refine wpAnyH_take (i := 0) (v := .string ⟨#[]⟩) rfl (by kernel_rfl) (by kernel_rfl) (by kernel_rfl) (fun _ _ _ h => h) (Or.inl ⟨by rfl, fun w' hw' => by clear hw'; go_simp⟩) hH ?_
    simp only [Act.put]
    refine wpAnyH_take (i := 1) (v := .string ⟨#[]⟩) rfl (by kernel_rfl) (by kernel_rfl) (by kernel_rfl) (fun _ _ _ h => h) (Or.inl ⟨by rfl, fun w' hw' => by clear hw'; go_simp⟩) hH ?_
    simp only [Act.put]
    refine wpAnyH_take (i := 2) (v := .bool false) rfl (by kernel_rfl) (by kernel_rfl) (by kernel_rfl) (fun _ _ _ h => h) (Or.inl ⟨by rfl, fun w' hw' => by clear hw'; go_simp⟩) hH ?_
    simp only [Act.put]
    refine wpAnyH_take (i := 3) (v := .bool false) rfl (by kernel_rfl) (by kernel_rfl) (by kernel_rfl) (fun _ _ _ h => h) (Or.inl ⟨by rfl, fun w' hw' => by clear hw'; go_simp⟩) hH ?_
    simp only [Act.put]
    refine wpAnyH_take (i := 4) (v := .int .i64 4) rfl (by kernel_rfl) (by kernel_rfl) (by kernel_rfl) (fun _ _ _ h => h) (Or.inl ⟨by kernel_rfl, fun w' hw' => by clear hw'; go_simp⟩) hH ?_
    simp only [Act.put]
    refine wpAnyH_take (i := 5) (v := .int .i64 4) rfl (by kernel_rfl) (by kernel_rfl) (by kernel_rfl) (fun _ _ _ h => h) (Or.inl ⟨by kernel_rfl, fun w' hw' => by clear hw'; go_simp⟩) hH ?_
    simp only [Act.put]
    refine wpAnyH_take (i := 6) (v := .bool false) rfl (by kernel_rfl) (by kernel_rfl) (by kernel_rfl) (fun _ _ _ h => h) (Or.inl ⟨by kernel_rfl, fun w' hw' => by clear hw'; go_simp⟩) hH ?_
    simp only [Act.put]
    refine wpAnyH_take (i := 7) (v := .bool false) rfl (by kernel_rfl) (by kernel_rfl) (by kernel_rfl) (fun _ _ _ h => h) (Or.inl ⟨by rfl, fun w' hw' => by clear hw'; go_simp⟩) hH ?_
    simp only [Act.put]
    refine wpAnyH_take (i := 8) (v := .bool false) rfl (by kernel_rfl) (by kernel_rfl) (by kernel_rfl) (fun _ _ _ h => h) (Or.inl ⟨by rfl, fun w' hw' => by clear hw'; go_simp⟩) hH ?_
    simp only [Act.put]
    refine wpAnyH_take (i := 9) (v := .agg s.cells) rfl (by kernel_rfl) (by kernel_rfl) (by kernel_rfl) (fun _ _ _ h => h) ?_ hH ?_
    · refine yieldsIf_load_mid ?_ 27 (.tmp 1) ?_ w.heap.size 0 ?_ (Array.toList s.cells) _ (fun W hW => Row.range (hW.1)) Try.underlying27 rfl (by exact HZS.out)
      all_goals kernel_rfl
    simp only [Act.put]
    refine wpAnyH_take (i := 11) (v := .agg s.cells) rfl (by kernel_rfl) (by kernel_rfl) (by kernel_rfl) (fun _ _ _ h => h) ?_ hH ?_
    · refine yieldsIf_load_mid ?_ 27 (.tmp 1) ?_ w.heap.size 0 ?_ (Array.toList s.cells) _ (fun W hW => Row.range (hW.1)) Try.underlying27 rfl (by exact HZS.out)
      all_goals kernel_rfl
    simp only [Act.put]
    refine wpAnyH_ready (rs := [10]) (by kernel_rfl) (by simp) ?_
    refine AllReadyH.cons rfl (fun K hK => ?_) AllReadyH.nil
    rw [if_pos (by kernel_rfl)]
    go_simp
    go_at_call 11
    refine (HRI.out _).mono ?_
    rintro e w4 ⟨rfl, hb4⟩
    go_wp2_with fail
    refine hK.out _ _ (⟨hH.1.below hb4 hH.1.lt, hH.2.trans (hb4.mono hH.2.size)⟩) (fun hH => ?_)
    clear hK K
    try simp only [Act.put]
    refine wpAnyH_ready (rs := [12]) (by kernel_rfl) (by simp) ?_
    refine AllReadyH.cons rfl (fun K hK => ?_) AllReadyH.nil
    rw [if_pos (by kernel_rfl)]
    go_simp
    go_at_call 12
    refine (HRR2.out _).mono ?_
    rintro e w5 ⟨rfl, hb5⟩
    go_wp2_with fail
    refine hK.out _ _ (⟨hH.1.below hb5 hH.1.lt, hH.2.trans (hb5.mono hH.2.size)⟩) (fun hH => ?_)
    clear hK K
    try simp only [Act.put]
    refine wpAnyH_take (i := 13) (v := .bool false) rfl (by kernel_rfl) (by kernel_rfl) (by kernel_rfl) (fun _ _ _ h => h) (Or.inl ⟨by kernel_rfl, fun w' _ => by kernel_rfl⟩) hH ?_
    simp only [Act.put]
    refine wpAnyH_take (i := 14) (v := .bool false) rfl (by kernel_rfl) (by kernel_rfl) (by kernel_rfl) (fun _ _ _ h => h) (Or.inl ⟨by kernel_rfl, fun w' _ => by kernel_rfl⟩) hH ?_
    simp only [Act.put]
    refine wpAnyH_take (i := 15) (v := .bool false) rfl (by kernel_rfl) (by kernel_rfl) (by kernel_rfl) (fun _ _ _ h => h) (Or.inl ⟨by kernel_rfl, fun w' _ => by kernel_rfl⟩) hH ?_
    simp only [Act.put]
    refine wpAnyH_take (i := 16) (v := .agg s.cells) rfl (by kernel_rfl) (by kernel_rfl) (by kernel_rfl) (fun _ _ _ h => h) ?_ hH ?_
    · refine yieldsIf_load_mid ?_ 27 (.tmp 1) ?_ w.heap.size 0 ?_ (Array.toList s.cells) _ (fun W hW => Row.range (hW.1)) Try.underlying27 rfl (by exact HZS.out)
      all_goals kernel_rfl
    simp only [Act.put]
    refine wpAnyH_take (i := 18) (v := .agg s.cells) rfl (by kernel_rfl) (by kernel_rfl) (by kernel_rfl) (fun _ _ _ h => h) ?_ hH ?_
    · refine yieldsIf_load_mid ?_ 27 (.tmp 1) ?_ w.heap.size 0 ?_ (Array.toList s.cells) _ (fun W hW => Row.range (hW.1)) Try.underlying27 rfl (by exact HZS.out)
      all_goals kernel_rfl
    simp only [Act.put]
    refine wpAnyH_ready (rs := [17]) (by kernel_rfl) (by simp) ?_
    refine AllReadyH.cons rfl (fun K hK => ?_) AllReadyH.nil
    rw [if_pos (by kernel_rfl)]
    go_simp
    go_at_call 13
    refine (HNX.out _).mono ?_
    rintro e w6 ⟨rfl, hb6⟩
    go_wp2_with fail
    refine hK.out _ _ (⟨hH.1.below hb6 hH.1.lt, hH.2.trans (hb6.mono hH.2.size)⟩) (fun hH => ?_)
    clear hK K
    try simp only [Act.put]
    refine wpAnyH_ready (rs := [19]) (by kernel_rfl) (by simp) ?_
    refine AllReadyH.cons rfl (fun K hK => ?_) AllReadyH.nil
    rw [if_pos (by kernel_rfl)]
    go_simp
    go_at_call 14
    refine (HRN.out _).mono ?_
    rintro e w7 ⟨rfl, hb7⟩
    go_wp2_with fail
    refine hK.out _ _ (⟨hH.1.below hb7 hH.1.lt, hH.2.trans (hb7.mono hH.2.size)⟩) (fun hH => ?_)
    clear hK K
    try simp only [Act.put]
    refine wpAnyH_take (i := 20) (v := .bool (!true)) rfl (by kernel_rfl) (by kernel_rfl) (by kernel_rfl) (fun _ _ _ h => h) (yields_nesu (by kernel_rfl) n n true (by simp) (.tmp 38) (.tmp 40) _ rfl (by kernel_rfl) (by kernel_rfl)) hH ?_
    simp only [Act.put]
    refine wpAnyH_ready (rs := [21]) (by kernel_rfl) (by simp) ?_
    refine AllReadyH.cons rfl (fun K hK => ?_) AllReadyH.nil
    go_simp
    refine hK.out _ _ (hH) (fun hH => ?_)
    clear hK K
    try simp only [Act.put]
    refine wpAnyH_done (by kernel_rfl) ?_ _
    try simp only [Act.put]
    have B7 := hid hH.2
    clear hH
    go_wp2_with fail
    go_ret
    exact ⟨rfl, B7.out⟩
end Go.Proofs.Ytogchfpecbmocaa
