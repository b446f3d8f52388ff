/-
  The walk of SuperKeeps.
-/
import Derived.Test.YtogchfpecbmocaaKpl
import Derived.Deep.CutRange
import Derived.Deep.DeepCutAuto
import Derived.Deep.CutBlock
namespace Go.Proofs.Ytogchfpecbmocaa
open Go.RowKit
set_option maxRecDepth 10000

set_option maxHeartbeats 8000000 in
theorem keeps_law (s t0 : Su) (hs : s.fits) (ht : t0.fits) (fu : Int) (hfu : -9223372036854775808 ≤ fu ∧ fu ≤ 9223372036854775807) (A3 A4 A5 : Option Addr) (l3 l4 l5 cap3 cap4 cap5 : Nat) (p3 p4 p5 : List Int) (w : World)
    (hl3 : l3 = p3.length) (hr3 : Rd w w.heap.size A3 (ints p3)) (hp3 : ∀ y ∈ p3, y ≤ 9223372036854775807) (hpn3 : l3 ≤ 9223372036854775807)
    (hl4 : l4 = p4.length) (hr4 : Rd w w.heap.size A4 (ints p4)) (hpn4 : l4 ≤ 9223372036854775807)
    (hl5 : l5 = p5.length) (hr5 : Rd w w.heap.size A5 (ints p5)) (hpn5 : l5 ≤ 9223372036854775807) :
    Calls Try.prog 6 #[s.val, t0.val, .int .i64 fu, .slice A3 l3 cap3, .slice A4 l4 cap4, .slice A5 l5 cap5] w (VE w (.bool true)) := by
  have HZS := hid superSize
  have HN := hid (fun W => new4 4 (by omega) (by omega) 4 rfl W)
  have HAW := hid (fun W => awake_any W)
  have HRS : Hid (∀ W, Calls Try.prog 11 #[.agg s.cells] W (VE W (.bool (decide (SR s))))) := hid fun W => right_any s W
  show Calls Try.prog 6 #[.agg s.cells, .agg t0.cells, .int .i64 fu, .slice A3 l3 cap3, .slice A4 l4 cap4, .slice A5 l5 cap5] w _
  have H6 : Hid (Row ((w.alloc (.cells s.cells 27)).alloc (.cells t0.cells 27)) w.heap.size 27 s.cells.toList) := hid ((Row.new _ _ _).alloc _)
  have H7 : Hid (Row ((w.alloc (.cells s.cells 27)).alloc (.cells t0.cells 27)) (w.heap.size + 1) 27 t0.cells.toList) := hid (alloc2_new _ _ _)
  have HB : Hid (Below w.heap.size w ((w.alloc (.cells s.cells 27)).alloc (.cells t0.cells 27))) := hid (((Below.refl _ _).alloc (Nat.le_refl _) _).alloc (by simp) _)
  have HLT : Hid (w.heap.size + 2 = ((w.alloc (.cells s.cells 27)).alloc (.cells t0.cells 27)).heap.size) := hid (by simp)
  have HL3 := hid hl3
  have HL4 := hid hl4
  have HL5 := hid hl5
  have HP3 := hid hp3
  have HR3 := hid hr3
  have HR4 := hid hr4
  have HR5 := hid hr5
  have HFU := hid hfu
  clear hl3 hl4 hl5 hp3 hr3 hr4 hr5 hfu
  by_cases h1 : SR s
  case neg =>
    rw [decide_eq_false h1] at HRS
    clear h1 hs ht
    go_enter Try.func6, Try.ntmps6
    go_wp2_with (first
        | (go_at_call 8; refine (HAW.out _).mono ?_; rintro e wa ⟨rfl, hba⟩; have r6 := H6.out.below hba (by have := HLT.out; omega); have r7 := H7.out.below hba (by have := HLT.out; omega); have bb := HB.out.trans (hba.mono (by have := HLT.out; omega)); have hlt := hba.size; rw [← HLT.out] at hlt; clear hba)
        | (go_at_call 17; refine (HN.out _).mono ?_; rintro e w1 ⟨p, gs, rfl, hd⟩; replace r6 := r6.below hd.below (by omega); replace r7 := r7.below hd.below (by omega); replace bb := bb.trans (hd.below.mono bb.size))
        | (refine wpl_load_want rfl 27 (.tmp 6) rfl w.heap.size rfl 27 s.cells (0, 0) _ r6.arr Try.underlying27 rfl HZS.out ?_)
        | (go_at_call 11; refine (HRS.out _).mono ?_; rintro e w3 ⟨rfl, hb3⟩; replace r6 := r6.below hb3 r6.lt; replace r7 := r7.below hb3 r7.lt; replace bb := bb.trans (hb3.mono bb.size); replace hd := hd.of hb3; clear hb3))
    go_ret
    exact ⟨rfl, bb⟩
  case pos =>
  have hq1 := h1.1.1
  have hq2 := h1.1.2
  have h1s := hid h1
  rw [decide_eq_true h1] at HRS
  clear h1
  by_cases h2 : s.seq = 72057594037927935
  case pos =>
    clear hs ht
    go_enter Try.func6, Try.ntmps6
    go_wp2_with (first
        | (go_at_call 8; refine (HAW.out _).mono ?_; rintro e wa ⟨rfl, hba⟩; have r6 := H6.out.below hba (by have := HLT.out; omega); have r7 := H7.out.below hba (by have := HLT.out; omega); have bb := HB.out.trans (hba.mono (by have := HLT.out; omega)); have hlt := hba.size; rw [← HLT.out] at hlt; clear hba)
        | (go_at_call 17; refine (HN.out _).mono ?_; rintro e w1 ⟨p, gs, rfl, hd⟩; replace r6 := r6.below hd.below (by omega); replace r7 := r7.below hd.below (by omega); replace bb := bb.trans (hd.below.mono bb.size))
        | (refine wpl_load_want rfl 27 (.tmp 6) rfl w.heap.size rfl 27 s.cells (0, 0) _ r6.arr Try.underlying27 rfl HZS.out ?_)
        | (go_at_call 11; refine (HRS.out _).mono ?_; rintro e w3 ⟨rfl, hb3⟩; replace r6 := r6.below hb3 r6.lt; replace r7 := r7.below hb3 r7.lt; replace bb := bb.trans (hb3.mono bb.size); replace hd := hd.of hb3; clear hb3; have c6 := r6.at_ 0 (.int .i64 s.seq) rfl; rw [h2] at c6))
    go_ret
    exact ⟨rfl, bb⟩
  case neg =>
  have hq3 : (s.seq == 72057594037927935) = false := by simpa using h2
  clear h2
  obtain ⟨T, hTc, hTf, hTs⟩ : ∃ T : Su, T.cells.toList = t0.cells.toList.set 0 (.int .i64 (s.seq + 1)) ∧ T.fits ∧ T.seq = s.seq + 1 := by
    refine ⟨{ t0 with seq := s.seq + 1 }, rfl, ?_, rfl⟩
    obtain ⟨⟨_, a1, a2, a3, a4⟩, r⟩ := ht
    exact ⟨⟨⟨by show -9223372036854775808 ≤ s.seq + 1; omega, by show s.seq + 1 ≤ 9223372036854775807; omega⟩, a1, a2, a3, a4⟩, r⟩
  have HTC := hid hTc
  have HTS : Hid (T ≠ s) := hid (fun e => by rw [e] at hTs; omega)
  have HRT : Hid (∀ W, Calls Try.prog 11 #[.agg T.cells] W (VE W (.bool (decide (SR T))))) := hid fun W => right_any T W
  clear hTc hTs ht
  by_cases h2 : SR T
  case neg =>
    rw [decide_eq_false h2] at HRT
    clear h2 hs hTf
    go_enter Try.func6, Try.ntmps6
    go_wp2_with (first
        | (refine wpl_load_want rfl 27 (.tmp 7) rfl (w.heap.size + 1) rfl 27 T.cells (0, 0) _ q7.arr Try.underlying27 rfl HZS.out ?_)
        | (go_at_call 11; have zz := q7; clear zz; refine (HRT.out _).mono ?_; rintro e w5 ⟨rfl, hb5⟩; replace q6 := q6.below hb5 q6.lt; replace q7 := q7.below hb5 q7.lt; replace qd := qd.of hb5; clear hb5)
        | (refine wpl_load_want rfl 27 (.tmp 6) rfl w.heap.size rfl 27 s.cells (0, 0) _ r6.arr Try.underlying27 rfl HZS.out ?_)
        | (go_at_call 8; refine (HAW.out _).mono ?_; rintro e wa ⟨rfl, hba⟩; have r6 := H6.out.below hba (by have := HLT.out; omega); have r7 := H7.out.below hba (by have := HLT.out; omega); have bb := HB.out.trans (hba.mono (by have := HLT.out; omega)); have hlt := hba.size; rw [← HLT.out] at hlt; clear hba)
        | (go_at_call 17; refine (HN.out _).mono ?_; rintro e w1 ⟨p, gs, rfl, hd⟩; replace r6 := r6.below hd.below (by omega); replace r7 := r7.below hd.below (by omega); replace bb := bb.trans (hd.below.mono bb.size))
        | (go_at_call 11; refine (HRS.out _).mono ?_; rintro e w3 ⟨rfl, hb3⟩; replace r6 := r6.below hb3 r6.lt; replace r7 := r7.below hb3 r7.lt; replace bb := bb.trans (hb3.mono bb.size); replace hd := hd.of hb3; clear hb3; have c6 := r6.at_ 0 (.int .i64 s.seq) rfl)
        | (refine wpl_store_c rfl 3 (.tmp 44) (.tmp 43) rfl (w.heap.size + 1) 0 (.int .i64 (s.seq + 1)) rfl rfl r7 sizeInt ?_ (hid (by rw [Array.length_toList, cells_size]; omega)) (hid rfl); intro w4 hr4 hg4; rw [← HTC.out] at hr4; have k6 := r6.grown hg4 (by simp); have k7 := hr4; have kb := bb.trans (below_grown hg4 (by omega) bb.size); have qd := hd.rebase hg4 (by omega); have q6 := k6; have q7 := k7; clear hg4 hr4))
    go_ret
    exact ⟨rfl, kb.trans (qd.below.mono (by omega))⟩
  case pos =>
  rw [decide_eq_true h2] at HRT
  have h2s := hid h2
  clear h2
  obtain ⟨S1, hw1, hp1⟩ := ph_first s h1s.out hs
  have HW : Hid (∀ B W0 W p gs, Dk B W0 W p gs (Sp.mk0 4) → Calls Try.prog 19 #[.pointer (some ⟨p, 0, none⟩), .agg s.cells] W (DP B W0 p gs S1 0)) := hid fun B W0 W p gs h => dk_swrite h s hs (by simp [Sp.mk0]) hw1
  have HP1 := hid hp1
  generalize Sp.mk0 4 = S0 at *
  clear hw1 hp1
  go_enter Try.func6, Try.ntmps6
  go_upto_block 0 with (first
      | (go_at_call 19; refine (HW.out _ _ _ _ _ qd).mono ?_; rintro e w6 ⟨rfl, hd6⟩)
      | (refine wpl_load_want rfl 27 (.tmp 7) rfl (w.heap.size + 1) rfl 27 T.cells (0, 0) _ q7.arr Try.underlying27 rfl HZS.out ?_)
      | (refine wpl_load_want rfl 27 (.tmp 6) rfl w.heap.size rfl 27 s.cells (0, 0) _ q6.arr Try.underlying27 rfl HZS.out ?_)
      | (go_at_call 11; have zz := q7; clear zz; refine (HRT.out _).mono ?_; rintro e w5 ⟨rfl, hb5⟩; replace q6 := q6.below hb5 q6.lt; replace q7 := q7.below hb5 q7.lt; replace qd := qd.of hb5; clear hb5)
      | (refine wpl_load_want rfl 27 (.tmp 6) rfl w.heap.size rfl 27 s.cells (0, 0) _ r6.arr Try.underlying27 rfl HZS.out ?_)
      | (go_at_call 8; refine (HAW.out _).mono ?_; rintro e wa ⟨rfl, hba⟩; have r6 := H6.out.below hba (by have := HLT.out; omega); have r7 := H7.out.below hba (by have := HLT.out; omega); have bb := HB.out.trans (hba.mono (by have := HLT.out; omega)); have hlt := hba.size; rw [← HLT.out] at hlt; clear hba)
      | (go_at_call 17; refine (HN.out _).mono ?_; rintro e w1 ⟨p, gs, rfl, hd⟩; replace r6 := r6.below hd.below (by omega); replace r7 := r7.below hd.below (by omega); replace bb := bb.trans (hd.below.mono bb.size))
      | (go_at_call 11; refine (HRS.out _).mono ?_; rintro e w3 ⟨rfl, hb3⟩; replace r6 := r6.below hb3 r6.lt; replace r7 := r7.below hb3 r7.lt; replace bb := bb.trans (hb3.mono bb.size); replace hd := hd.of hb3; clear hb3; have c6 := r6.at_ 0 (.int .i64 s.seq) rfl)
      | (refine wpl_store_c rfl 3 (.tmp 44) (.tmp 43) rfl (w.heap.size + 1) 0 (.int .i64 (s.seq + 1)) rfl rfl r7 sizeInt ?_ (hid (by rw [Array.length_toList, cells_size]; omega)) (hid rfl); intro w4 hr4 hg4; rw [← HTC.out] at hr4; have k6 := r6.grown hg4 (by simp); have k7 := hr4; have kb := bb.trans (below_grown hg4 (by omega) bb.size); have qd := hd.rebase hg4 (by omega); have q6 := k6; have q7 := k7; clear hg4 hr4))
  have HD6 := hid hd6
  have HBB := hid kb
  have HR6 : Hid (∀ W, Below wa.heap.size w4 W → Row W w.heap.size 27 s.cells.toList) := hid fun W hW => k6.below hW (by omega)
  have HR7 : Hid (∀ W, Below wa.heap.size w4 W → Row W (w.heap.size + 1) 27 T.cells.toList) := hid fun W hW => k7.below hW (by omega)
  have HRD3 : Hid (∀ W, Below wa.heap.size w4 W → Rd W w.heap.size A3 (ints p3)) := hid fun W hW => (HR3.out.below kb (Nat.le_refl _)).below hW (by omega)
  have HRD4 : Hid (∀ W, Below wa.heap.size w4 W → Rd W w.heap.size A4 (ints p4)) := hid fun W hW => (HR4.out.below kb (Nat.le_refl _)).below hW (by omega)
  have HRD5 : Hid (∀ W, Below wa.heap.size w4 W → Rd W w.heap.size A5 (ints p5)) := hid fun W hW => (HR5.out.below kb (Nat.le_refl _)).below hW (by omega)
  have HLE : Hid (w.heap.size ≤ wa.heap.size) := hid (by omega)
  have HGS : Hid (w.heap.size ≤ gs) := hid (by have := hd6.gs_ge; omega)
  clear hd6 kb k6 k7 q6 q7 qd hd r6 r7 bb c6 hq1 hq2 hq3 H6 H7 HB HW HN HAW HR3 HR4 HR5 HRS HRT HTC
  go_cut [15, 16] (fun rv iv wx => ∃ r : Nat, ∃ W1 : World, W1 = wx ∧ rv = .int .i64 (r : Int) ∧ r ≤ 2 ∧ ∃ S2, Hid (Ph (fun x => x = s) S2 (r + 0) 8) ∧ Dk wa.heap.size w4 wx p gs S2)
  case first =>
    go_wp2_with fail
    go_loopw [15, 16] (fun rv iv wr => ∃ k r : Nat, k ≤ l4 ∧ iv = .int .i64 (k : Int) ∧ rv = .int .i64 (r : Int) ∧ r ≤ 2 ∧ ∃ S2, Hid (Ph (fun x => x = s) S2 (r + 0) 8) ∧ Dk wa.heap.size w4 wr p gs S2) (fun _ iv _ => l4 - (intOf iv).toNat)
    case atStart => exact ⟨0, 0, Nat.zero_le _, rfl, rfl, by omega, S1, hid HP1.out, HD6.out⟩
    case round =>
      obtain ⟨k, r, hk, rfl, rfl, hr, S2, hph, hdk⟩ := hrel
      have HDK := hid hdk
      clear hdk
      by_cases hkl : k < l4
      case neg =>
        go_wp2_with fail
        go_meet
        case rel => exact ⟨r, _, rfl, rfl, hr, S2, hph, HDK.out⟩
      case pos =>
      by_cases hr2 : r < 2
      case neg =>
        go_wp2_with fail
        go_meet
        case rel => exact ⟨r, _, rfl, rfl, hr, S2, hph, HDK.out⟩
      case pos =>
      obtain ⟨y, hy⟩ : ∃ y, (ints p4)[k]'(by rw [ints_len, ← HL4.out]; exact hkl) = .int .i64 y := ⟨p4[k]'(by rw [← HL4.out]; exact hkl), by simp [ints]⟩
      obtain ⟨g, o, hA, -, -⟩ := (HRD4.out _ HDK.out.below).at_ (j := k) (by rw [ints_len, ← HL4.out]; exact hkl)
      have HC : Hid (∀ W, Below wa.heap.size w4 W → W.cell? ⟨g, o + k, none⟩ = some (.int .i64 y)) := hid fun W hW => by
        obtain ⟨g', o', e, _, hc⟩ := (HRD4.out W hW).at_ (j := k) (by rw [ints_len, ← HL4.out]; exact hkl)
        rw [hA] at e
        cases e
        rw [hc, hy]
      clear hy
      subst hA
      obtain ⟨i0, hi, hi2⟩ := and_in y 3 3 (by decide) (by omega)
      obtain ⟨a, ha, ha2⟩ := and_in (y / 4) 255 255 (by decide) (by omega)
      obtain ⟨b, hb, hb2⟩ := and_in (y / 1024) 127 127 (by decide) (by omega)
      have HI := hid hi
      have HA := hid ha
      have HBt := hid hb
      have HWR : Hid (IntKind.i64.wrap (1 + (b : Int)) = 1 + (b : Int)) := hid (IntWalk.i64_in _ (by omega))
      obtain ⟨S3, x, hrot, hout⟩ := ph_rot hph.out (i := i0) (a := a) (b := b) (by omega) ha2 hb2
      have HROT : Hid (∀ W, Dk wa.heap.size w4 W p gs S2 → Calls Try.prog 27 #[.pointer (some ⟨p, 0, none⟩), .int .i64 (i0 : Int), .int .i64 (a : Int), .int .i64 (1 + (b : Int))] W (DP wa.heap.size w4 p gs S3 x)) := hid fun W h => dk_rot h _ _ _ hrot
      have h0k : (0 : Int) ≤ (k : Int) := by omega
      have hki : (k : Int) < (l4 : Int) := by omega
      clear hi ha hb hrot
      rcases hout with ⟨rfl, hp3⟩ | ⟨rfl, hp3⟩
      · go_wp2_with fail
        refine wp_region_held_drew (S := fun W => Below wa.heap.size w4 W) (by kernel_rfl) (HDK.out.below.drew) (fun hH => ?_)
        refine wpAnyH_take (i := 0) (v := .pointer (some ⟨p, 0, none⟩)) rfl (by kernel_rfl) (by kernel_rfl) (by kernel_rfl) (fun _ _ _ h => h) (Or.inl ⟨by rfl, fun w' hw' => by clear hw'; go_simp⟩) hH ?_
        simp only [Act.put]
        refine wpAnyH_take (i := 1) (v := .slice (some ⟨g, o, none⟩) l4 cap4) rfl (by kernel_rfl) (by kernel_rfl) (by kernel_rfl) (fun _ _ _ h => h) (Or.inl ⟨by rfl, fun w' hw' => by clear hw'; go_simp⟩) hH ?_
        simp only [Act.put]
        refine wpAnyH_take (i := 2) (v := .int .i64 (k : Int)) rfl (by kernel_rfl) (by kernel_rfl) (by kernel_rfl) (fun _ _ _ h => h) (Or.inl ⟨by rfl, fun w' hw' => by clear hw'; go_simp⟩) hH ?_
        simp only [Act.put]
        refine wpAnyH_take (i := 3) (v := .pointer (some ⟨g, o + k, none⟩)) rfl (by kernel_rfl) (by kernel_rfl) (by kernel_rfl) (fun _ _ _ h => h) (Or.inl ⟨by rfl, fun w' hw' => by clear hw'; go_simp⟩) hH ?_
        simp only [Act.put]
        refine wpAnyH_take (i := 4) (v := .int .i64 y) rfl (by kernel_rfl) (by kernel_rfl) (by kernel_rfl) (fun _ _ _ h => h) (Or.inl ⟨by rfl, fun w' hw' => by have h := HC.out w' hw'; go_simp⟩) hH ?_
        simp only [Act.put]
        refine wpAnyH_take (i := 5) (v := .int .i64 (i0 : Int)) rfl (by kernel_rfl) (by kernel_rfl) (by kernel_rfl) (fun _ _ _ h => h) (Or.inl ⟨by rfl, fun w' hw' => by have h := HI.out; go_simp⟩) hH ?_
        simp only [Act.put]
        refine wpAnyH_take (i := 6) (v := .slice (some ⟨g, o, none⟩) l4 cap4) rfl (by kernel_rfl) (by kernel_rfl) (by kernel_rfl) (fun _ _ _ h => h) (Or.inl ⟨by rfl, fun w' hw' => by clear hw'; go_simp⟩) hH ?_
        simp only [Act.put]
        refine wpAnyH_take (i := 7) (v := .int .i64 (k : Int)) rfl (by kernel_rfl) (by kernel_rfl) (by kernel_rfl) (fun _ _ _ h => h) (Or.inl ⟨by rfl, fun w' hw' => by clear hw'; go_simp⟩) hH ?_
        simp only [Act.put]
        refine wpAnyH_take (i := 8) (v := .pointer (some ⟨g, o + k, none⟩)) rfl (by kernel_rfl) (by kernel_rfl) (by kernel_rfl) (fun _ _ _ h => h) (Or.inl ⟨by rfl, fun w' hw' => by clear hw'; go_simp⟩) hH ?_
        simp only [Act.put]
        refine wpAnyH_take (i := 9) (v := .int .i64 y) rfl (by kernel_rfl) (by kernel_rfl) (by kernel_rfl) (fun _ _ _ h => h) (Or.inl ⟨by rfl, fun w' hw' => by have h := HC.out w' hw'; go_simp⟩) hH ?_
        simp only [Act.put]
        refine wpAnyH_take (i := 10) (v := .int .i64 (y / 4)) rfl (by kernel_rfl) (by kernel_rfl) (by kernel_rfl) (fun _ _ _ h => h) (Or.inl ⟨by rfl, fun w' hw' => by clear hw'; go_simp⟩) hH ?_
        simp only [Act.put]
        refine wpAnyH_take (i := 11) (v := .int .i64 (a : Int)) rfl (by kernel_rfl) (by kernel_rfl) (by kernel_rfl) (fun _ _ _ h => h) (Or.inl ⟨by rfl, fun w' hw' => by have h := HA.out; go_simp⟩) hH ?_
        simp only [Act.put]
        refine wpAnyH_take (i := 12) (v := .slice (some ⟨g, o, none⟩) l4 cap4) rfl (by kernel_rfl) (by kernel_rfl) (by kernel_rfl) (fun _ _ _ h => h) (Or.inl ⟨by rfl, fun w' hw' => by clear hw'; go_simp⟩) hH ?_
        simp only [Act.put]
        refine wpAnyH_take (i := 13) (v := .int .i64 (k : Int)) rfl (by kernel_rfl) (by kernel_rfl) (by kernel_rfl) (fun _ _ _ h => h) (Or.inl ⟨by rfl, fun w' hw' => by clear hw'; go_simp⟩) hH ?_
        simp only [Act.put]
        refine wpAnyH_take (i := 14) (v := .pointer (some ⟨g, o + k, none⟩)) rfl (by kernel_rfl) (by kernel_rfl) (by kernel_rfl) (fun _ _ _ h => h) (Or.inl ⟨by rfl, fun w' hw' => by clear hw'; go_simp⟩) hH ?_
        simp only [Act.put]
        refine wpAnyH_take (i := 15) (v := .int .i64 y) rfl (by kernel_rfl) (by kernel_rfl) (by kernel_rfl) (fun _ _ _ h => h) (Or.inl ⟨by rfl, fun w' hw' => by have h := HC.out w' hw'; go_simp⟩) hH ?_
        simp only [Act.put]
        refine wpAnyH_take (i := 16) (v := .int .i64 (y / 1024)) rfl (by kernel_rfl) (by kernel_rfl) (by kernel_rfl) (fun _ _ _ h => h) (Or.inl ⟨by rfl, fun w' hw' => by clear hw'; go_simp⟩) hH ?_
        simp only [Act.put]
        refine wpAnyH_take (i := 17) (v := .int .i64 (b : Int)) rfl (by kernel_rfl) (by kernel_rfl) (by kernel_rfl) (fun _ _ _ h => h) (Or.inl ⟨by rfl, fun w' hw' => by have h := HBt.out; go_simp⟩) hH ?_
        simp only [Act.put]
        refine wpAnyH_take (i := 18) (v := .int .i64 (1 + (b : Int))) rfl (by kernel_rfl) (by kernel_rfl) (by kernel_rfl) (fun _ _ _ h => h) (Or.inl ⟨by rfl, fun w' hw' => by have h := HWR.out; go_simp⟩) hH ?_
        simp only [Act.put]
        refine wpAnyH_ready (rs := [19]) (by kernel_rfl) (by simp) ?_
        refine AllReadyH.cons rfl (fun K hK => ?_) AllReadyH.nil
        go_simp
        go_at_call 27
        refine (HROT.out _ HDK.out.drew).mono ?_
        rintro e w9 ⟨rfl, hd9⟩
        go_wp2_with fail
        refine hK.out _ _ (hd9.below) (fun hH => ?_)
        clear hK K
        try simp only [Act.put]
        refine wpAnyH_ready (rs := [20]) (by kernel_rfl) (by simp) ?_
        refine AllReadyH.cons rfl (fun K hK => ?_) AllReadyH.nil
        go_simp
        refine hK.out _ _ (hH) (fun hH => ?_)
        clear hK K
        try simp only [Act.put]
        refine wpAnyH_done (by kernel_rfl) ?_ _
        try simp only [Act.put]
        go_wp2_with fail
        exact ⟨⟨k + 1, r + 1, by omega, by go_num, by go_num, by omega, S3, hid (hp3.more (by omega) (Nat.le_refl _)), hd9⟩, by simp [intOf]; omega⟩
      · go_wp2_with fail
        refine wp_region_held_drew (S := fun W => Below wa.heap.size w4 W) (by kernel_rfl) (HDK.out.below.drew) (fun hH => ?_)
        refine wpAnyH_take (i := 0) (v := .pointer (some ⟨p, 0, none⟩)) rfl (by kernel_rfl) (by kernel_rfl) (by kernel_rfl) (fun _ _ _ h => h) (Or.inl ⟨by rfl, fun w' hw' => by clear hw'; go_simp⟩) hH ?_
        simp only [Act.put]
        refine wpAnyH_take (i := 1) (v := .slice (some ⟨g, o, none⟩) l4 cap4) rfl (by kernel_rfl) (by kernel_rfl) (by kernel_rfl) (fun _ _ _ h => h) (Or.inl ⟨by rfl, fun w' hw' => by clear hw'; go_simp⟩) hH ?_
        simp only [Act.put]
        refine wpAnyH_take (i := 2) (v := .int .i64 (k : Int)) rfl (by kernel_rfl) (by kernel_rfl) (by kernel_rfl) (fun _ _ _ h => h) (Or.inl ⟨by rfl, fun w' hw' => by clear hw'; go_simp⟩) hH ?_
        simp only [Act.put]
        refine wpAnyH_take (i := 3) (v := .pointer (some ⟨g, o + k, none⟩)) rfl (by kernel_rfl) (by kernel_rfl) (by kernel_rfl) (fun _ _ _ h => h) (Or.inl ⟨by rfl, fun w' hw' => by clear hw'; go_simp⟩) hH ?_
        simp only [Act.put]
        refine wpAnyH_take (i := 4) (v := .int .i64 y) rfl (by kernel_rfl) (by kernel_rfl) (by kernel_rfl) (fun _ _ _ h => h) (Or.inl ⟨by rfl, fun w' hw' => by have h := HC.out w' hw'; go_simp⟩) hH ?_
        simp only [Act.put]
        refine wpAnyH_take (i := 5) (v := .int .i64 (i0 : Int)) rfl (by kernel_rfl) (by kernel_rfl) (by kernel_rfl) (fun _ _ _ h => h) (Or.inl ⟨by rfl, fun w' hw' => by have h := HI.out; go_simp⟩) hH ?_
        simp only [Act.put]
        refine wpAnyH_take (i := 6) (v := .slice (some ⟨g, o, none⟩) l4 cap4) rfl (by kernel_rfl) (by kernel_rfl) (by kernel_rfl) (fun _ _ _ h => h) (Or.inl ⟨by rfl, fun w' hw' => by clear hw'; go_simp⟩) hH ?_
        simp only [Act.put]
        refine wpAnyH_take (i := 7) (v := .int .i64 (k : Int)) rfl (by kernel_rfl) (by kernel_rfl) (by kernel_rfl) (fun _ _ _ h => h) (Or.inl ⟨by rfl, fun w' hw' => by clear hw'; go_simp⟩) hH ?_
        simp only [Act.put]
        refine wpAnyH_take (i := 8) (v := .pointer (some ⟨g, o + k, none⟩)) rfl (by kernel_rfl) (by kernel_rfl) (by kernel_rfl) (fun _ _ _ h => h) (Or.inl ⟨by rfl, fun w' hw' => by clear hw'; go_simp⟩) hH ?_
        simp only [Act.put]
        refine wpAnyH_take (i := 9) (v := .int .i64 y) rfl (by kernel_rfl) (by kernel_rfl) (by kernel_rfl) (fun _ _ _ h => h) (Or.inl ⟨by rfl, fun w' hw' => by have h := HC.out w' hw'; go_simp⟩) hH ?_
        simp only [Act.put]
        refine wpAnyH_take (i := 10) (v := .int .i64 (y / 4)) rfl (by kernel_rfl) (by kernel_rfl) (by kernel_rfl) (fun _ _ _ h => h) (Or.inl ⟨by rfl, fun w' hw' => by clear hw'; go_simp⟩) hH ?_
        simp only [Act.put]
        refine wpAnyH_take (i := 11) (v := .int .i64 (a : Int)) rfl (by kernel_rfl) (by kernel_rfl) (by kernel_rfl) (fun _ _ _ h => h) (Or.inl ⟨by rfl, fun w' hw' => by have h := HA.out; go_simp⟩) hH ?_
        simp only [Act.put]
        refine wpAnyH_take (i := 12) (v := .slice (some ⟨g, o, none⟩) l4 cap4) rfl (by kernel_rfl) (by kernel_rfl) (by kernel_rfl) (fun _ _ _ h => h) (Or.inl ⟨by rfl, fun w' hw' => by clear hw'; go_simp⟩) hH ?_
        simp only [Act.put]
        refine wpAnyH_take (i := 13) (v := .int .i64 (k : Int)) rfl (by kernel_rfl) (by kernel_rfl) (by kernel_rfl) (fun _ _ _ h => h) (Or.inl ⟨by rfl, fun w' hw' => by clear hw'; go_simp⟩) hH ?_
        simp only [Act.put]
        refine wpAnyH_take (i := 14) (v := .pointer (some ⟨g, o + k, none⟩)) rfl (by kernel_rfl) (by kernel_rfl) (by kernel_rfl) (fun _ _ _ h => h) (Or.inl ⟨by rfl, fun w' hw' => by clear hw'; go_simp⟩) hH ?_
        simp only [Act.put]
        refine wpAnyH_take (i := 15) (v := .int .i64 y) rfl (by kernel_rfl) (by kernel_rfl) (by kernel_rfl) (fun _ _ _ h => h) (Or.inl ⟨by rfl, fun w' hw' => by have h := HC.out w' hw'; go_simp⟩) hH ?_
        simp only [Act.put]
        refine wpAnyH_take (i := 16) (v := .int .i64 (y / 1024)) rfl (by kernel_rfl) (by kernel_rfl) (by kernel_rfl) (fun _ _ _ h => h) (Or.inl ⟨by rfl, fun w' hw' => by clear hw'; go_simp⟩) hH ?_
        simp only [Act.put]
        refine wpAnyH_take (i := 17) (v := .int .i64 (b : Int)) rfl (by kernel_rfl) (by kernel_rfl) (by kernel_rfl) (fun _ _ _ h => h) (Or.inl ⟨by rfl, fun w' hw' => by have h := HBt.out; go_simp⟩) hH ?_
        simp only [Act.put]
        refine wpAnyH_take (i := 18) (v := .int .i64 (1 + (b : Int))) rfl (by kernel_rfl) (by kernel_rfl) (by kernel_rfl) (fun _ _ _ h => h) (Or.inl ⟨by rfl, fun w' hw' => by have h := HWR.out; go_simp⟩) hH ?_
        simp only [Act.put]
        refine wpAnyH_ready (rs := [19]) (by kernel_rfl) (by simp) ?_
        refine AllReadyH.cons rfl (fun K hK => ?_) AllReadyH.nil
        go_simp
        go_at_call 27
        refine (HROT.out _ HDK.out.drew).mono ?_
        rintro e w9 ⟨rfl, hd9⟩
        go_wp2_with fail
        refine hK.out _ _ (hd9.below) (fun hH => ?_)
        clear hK K
        try simp only [Act.put]
        refine wpAnyH_ready (rs := [20]) (by kernel_rfl) (by simp) ?_
        refine AllReadyH.cons rfl (fun K hK => ?_) AllReadyH.nil
        go_simp
        refine hK.out _ _ (hH) (fun hH => ?_)
        clear hK K
        try simp only [Act.put]
        refine wpAnyH_done (by kernel_rfl) ?_ _
        try simp only [Act.put]
        go_wp2_with fail
        exact ⟨⟨k + 1, r, by omega, by go_num, rfl, hr, S3, hid hp3, hd9⟩, by simp [intOf]; omega⟩
  case rest =>
  obtain ⟨r, W1, rfl, rfl, hr, S2, hph, hdk⟩ := hcut
  have HDK := hid hdk
  clear hdk
  obtain ⟨S3, ef, hp3, hleft⟩ := ph_fuse hph.out fu
  have hcn3 := hp3.cnt
  have HFUS : Hid (∀ W, Dk wa.heap.size w4 W p gs S2 → Calls Try.prog 21 #[.pointer (some ⟨p, 0, none⟩), .int .i64 fu] W (DP wa.heap.size w4 p gs S3 0)) := hid fun W h => dk_fuse h fu HFU.out.2 ef
  clear ef hleft
  rcases ph_write1 hp3 h2s.out hTf with ⟨S4, e4, hp4⟩ | ⟨S4, e4, ho4, hc4, hst⟩
  · have hon := hp4.cl.on
    have HWT : Hid (∀ W, Dk wa.heap.size w4 W p gs S3 → Calls Try.prog 19 #[.pointer (some ⟨p, 0, none⟩), .agg T.cells] W (DP wa.heap.size w4 p gs S4 0)) := hid fun W h => dk_swrite h T hTf (by omega) e4
    have HON : Hid (∀ W, Dk wa.heap.size w4 W p gs S4 → Calls Try.prog 32 #[.pointer (some ⟨p, 0, none⟩)] W fun e w' => e = .returned (.bool true) ∧ w' = W) := hid fun W h => dk_on h hon
    clear e4 hon
    go_upto_block 2 with (first
        | (go_at_call 21; refine (HFUS.out _ HDK.out).mono ?_; rintro e w7 ⟨rfl, hd7⟩)
        | (refine wpl_load_want rfl 27 (.tmp 7) rfl (w.heap.size + 1) rfl 27 T.cells (0, 0) _ (HR7.out _ hd7.below).arr Try.underlying27 rfl HZS.out ?_)
        | (go_at_call 19; refine (HWT.out _ hd7).mono ?_; rintro e w8 ⟨rfl, hd8⟩)
        | (go_at_call 32; refine (HON.out _ hd8).mono ?_; rintro e w9 ⟨rfl, rfl⟩))
    have HD8 := hid hd8
    clear hd8 hd7
    go_cut [15, 18] (fun rv iv wx => ∃ r : Nat, ∃ W1 : World, W1 = wx ∧ rv = .int .i64 (r : Int) ∧ r ≤ 2 ∧ ∃ S2, Hid (Ph (fun x => x = T) S2 (r + 0) 16) ∧ Dk wa.heap.size w4 wx p gs S2)
    case first =>
      go_wp2_with fail
      go_loopw [15, 18] (fun rv iv wr => ∃ k r : Nat, k ≤ l5 ∧ iv = .int .i64 (k : Int) ∧ rv = .int .i64 (r : Int) ∧ r ≤ 2 ∧ ∃ S2, Hid (Ph (fun x => x = T) S2 (r + 0) 16) ∧ Dk wa.heap.size w4 wr p gs S2) (fun _ iv _ => l5 - (intOf iv).toNat)
      case atStart => exact ⟨0, r, Nat.zero_le _, rfl, rfl, hr, S4, hid (hp4.more (by omega) (Nat.le_refl _)), HD8.out⟩
      case round =>
        obtain ⟨k, r, hk, rfl, rfl, hr, S2, hph, hdk⟩ := hrel
        have HDK := hid hdk
        clear hdk
        by_cases hkl : k < l5
        case neg =>
          go_wp2_with fail
          go_meet
          case rel => exact ⟨r, _, rfl, rfl, hr, S2, hph, HDK.out⟩
        case pos =>
        by_cases hr2 : r < 2
        case neg =>
          go_wp2_with fail
          go_meet
          case rel => exact ⟨r, _, rfl, rfl, hr, S2, hph, HDK.out⟩
        case pos =>
        obtain ⟨y, hy⟩ : ∃ y, (ints p5)[k]'(by rw [ints_len, ← HL5.out]; exact hkl) = .int .i64 y := ⟨p5[k]'(by rw [← HL5.out]; exact hkl), by simp [ints]⟩
        obtain ⟨g, o, hA, -, -⟩ := (HRD5.out _ HDK.out.below).at_ (j := k) (by rw [ints_len, ← HL5.out]; exact hkl)
        have HC : Hid (∀ W, Below wa.heap.size w4 W → W.cell? ⟨g, o + k, none⟩ = some (.int .i64 y)) := hid fun W hW => by
          obtain ⟨g', o', e, _, hc⟩ := (HRD5.out W hW).at_ (j := k) (by rw [ints_len, ← HL5.out]; exact hkl)
          rw [hA] at e
          cases e
          rw [hc, hy]
        clear hy
        subst hA
        obtain ⟨i0, hi, hi2⟩ := and_in y 3 3 (by decide) (by omega)
        obtain ⟨a, ha, ha2⟩ := and_in (y / 4) 255 255 (by decide) (by omega)
        obtain ⟨b, hb, hb2⟩ := and_in (y / 1024) 127 127 (by decide) (by omega)
        have HI := hid hi
        have HA := hid ha
        have HBt := hid hb
        have HWR : Hid (IntKind.i64.wrap (1 + (b : Int)) = 1 + (b : Int)) := hid (IntWalk.i64_in _ (by omega))
        obtain ⟨S3, x, hrot, hout⟩ := ph_rot hph.out (i := i0) (a := a) (b := b) (by omega) ha2 hb2
        have HROT : Hid (∀ W, Dk wa.heap.size w4 W p gs S2 → Calls Try.prog 27 #[.pointer (some ⟨p, 0, none⟩), .int .i64 (i0 : Int), .int .i64 (a : Int), .int .i64 (1 + (b : Int))] W (DP wa.heap.size w4 p gs S3 x)) := hid fun W h => dk_rot h _ _ _ hrot
        have h0k : (0 : Int) ≤ (k : Int) := by omega
        have hki : (k : Int) < (l5 : Int) := by omega
        clear hi ha hb hrot
        rcases hout with ⟨rfl, hp3⟩ | ⟨rfl, hp3⟩
        · go_wp2_with fail
          refine wp_region_held_drew (S := fun W => Below wa.heap.size w4 W) (by kernel_rfl) (HDK.out.below.drew) (fun hH => ?_)
          refine wpAnyH_take (i := 0) (v := .pointer (some ⟨p, 0, none⟩)) rfl (by kernel_rfl) (by kernel_rfl) (by kernel_rfl) (fun _ _ _ h => h) (Or.inl ⟨by rfl, fun w' hw' => by clear hw'; go_simp⟩) hH ?_
          simp only [Act.put]
          refine wpAnyH_take (i := 1) (v := .slice (some ⟨g, o, none⟩) l5 cap5) rfl (by kernel_rfl) (by kernel_rfl) (by kernel_rfl) (fun _ _ _ h => h) (Or.inl ⟨by rfl, fun w' hw' => by clear hw'; go_simp⟩) hH ?_
          simp only [Act.put]
          refine wpAnyH_take (i := 2) (v := .int .i64 (k : Int)) rfl (by kernel_rfl) (by kernel_rfl) (by kernel_rfl) (fun _ _ _ h => h) (Or.inl ⟨by rfl, fun w' hw' => by clear hw'; go_simp⟩) hH ?_
          simp only [Act.put]
          refine wpAnyH_take (i := 3) (v := .pointer (some ⟨g, o + k, none⟩)) rfl (by kernel_rfl) (by kernel_rfl) (by kernel_rfl) (fun _ _ _ h => h) (Or.inl ⟨by rfl, fun w' hw' => by clear hw'; go_simp⟩) hH ?_
          simp only [Act.put]
          refine wpAnyH_take (i := 4) (v := .int .i64 y) rfl (by kernel_rfl) (by kernel_rfl) (by kernel_rfl) (fun _ _ _ h => h) (Or.inl ⟨by rfl, fun w' hw' => by have h := HC.out w' hw'; go_simp⟩) hH ?_
          simp only [Act.put]
          refine wpAnyH_take (i := 5) (v := .int .i64 (i0 : Int)) rfl (by kernel_rfl) (by kernel_rfl) (by kernel_rfl) (fun _ _ _ h => h) (Or.inl ⟨by rfl, fun w' hw' => by have h := HI.out; go_simp⟩) hH ?_
          simp only [Act.put]
          refine wpAnyH_take (i := 6) (v := .slice (some ⟨g, o, none⟩) l5 cap5) rfl (by kernel_rfl) (by kernel_rfl) (by kernel_rfl) (fun _ _ _ h => h) (Or.inl ⟨by rfl, fun w' hw' => by clear hw'; go_simp⟩) hH ?_
          simp only [Act.put]
          refine wpAnyH_take (i := 7) (v := .int .i64 (k : Int)) rfl (by kernel_rfl) (by kernel_rfl) (by kernel_rfl) (fun _ _ _ h => h) (Or.inl ⟨by rfl, fun w' hw' => by clear hw'; go_simp⟩) hH ?_
          simp only [Act.put]
          refine wpAnyH_take (i := 8) (v := .pointer (some ⟨g, o + k, none⟩)) rfl (by kernel_rfl) (by kernel_rfl) (by kernel_rfl) (fun _ _ _ h => h) (Or.inl ⟨by rfl, fun w' hw' => by clear hw'; go_simp⟩) hH ?_
          simp only [Act.put]
          refine wpAnyH_take (i := 9) (v := .int .i64 y) rfl (by kernel_rfl) (by kernel_rfl) (by kernel_rfl) (fun _ _ _ h => h) (Or.inl ⟨by rfl, fun w' hw' => by have h := HC.out w' hw'; go_simp⟩) hH ?_
          simp only [Act.put]
          refine wpAnyH_take (i := 10) (v := .int .i64 (y / 4)) rfl (by kernel_rfl) (by kernel_rfl) (by kernel_rfl) (fun _ _ _ h => h) (Or.inl ⟨by rfl, fun w' hw' => by clear hw'; go_simp⟩) hH ?_
          simp only [Act.put]
          refine wpAnyH_take (i := 11) (v := .int .i64 (a : Int)) rfl (by kernel_rfl) (by kernel_rfl) (by kernel_rfl) (fun _ _ _ h => h) (Or.inl ⟨by rfl, fun w' hw' => by have h := HA.out; go_simp⟩) hH ?_
          simp only [Act.put]
          refine wpAnyH_take (i := 12) (v := .slice (some ⟨g, o, none⟩) l5 cap5) rfl (by kernel_rfl) (by kernel_rfl) (by kernel_rfl) (fun _ _ _ h => h) (Or.inl ⟨by rfl, fun w' hw' => by clear hw'; go_simp⟩) hH ?_
          simp only [Act.put]
          refine wpAnyH_take (i := 13) (v := .int .i64 (k : Int)) rfl (by kernel_rfl) (by kernel_rfl) (by kernel_rfl) (fun _ _ _ h => h) (Or.inl ⟨by rfl, fun w' hw' => by clear hw'; go_simp⟩) hH ?_
          simp only [Act.put]
          refine wpAnyH_take (i := 14) (v := .pointer (some ⟨g, o + k, none⟩)) rfl (by kernel_rfl) (by kernel_rfl) (by kernel_rfl) (fun _ _ _ h => h) (Or.inl ⟨by rfl, fun w' hw' => by clear hw'; go_simp⟩) hH ?_
          simp only [Act.put]
          refine wpAnyH_take (i := 15) (v := .int .i64 y) rfl (by kernel_rfl) (by kernel_rfl) (by kernel_rfl) (fun _ _ _ h => h) (Or.inl ⟨by rfl, fun w' hw' => by have h := HC.out w' hw'; go_simp⟩) hH ?_
          simp only [Act.put]
          refine wpAnyH_take (i := 16) (v := .int .i64 (y / 1024)) rfl (by kernel_rfl) (by kernel_rfl) (by kernel_rfl) (fun _ _ _ h => h) (Or.inl ⟨by rfl, fun w' hw' => by clear hw'; go_simp⟩) hH ?_
          simp only [Act.put]
          refine wpAnyH_take (i := 17) (v := .int .i64 (b : Int)) rfl (by kernel_rfl) (by kernel_rfl) (by kernel_rfl) (fun _ _ _ h => h) (Or.inl ⟨by rfl, fun w' hw' => by have h := HBt.out; go_simp⟩) hH ?_
          simp only [Act.put]
          refine wpAnyH_take (i := 18) (v := .int .i64 (1 + (b : Int))) rfl (by kernel_rfl) (by kernel_rfl) (by kernel_rfl) (fun _ _ _ h => h) (Or.inl ⟨by rfl, fun w' hw' => by have h := HWR.out; go_simp⟩) hH ?_
          simp only [Act.put]
          refine wpAnyH_ready (rs := [19]) (by kernel_rfl) (by simp) ?_
          refine AllReadyH.cons rfl (fun K hK => ?_) AllReadyH.nil
          go_simp
          go_at_call 27
          refine (HROT.out _ HDK.out.drew).mono ?_
          rintro e w9 ⟨rfl, hd9⟩
          go_wp2_with fail
          refine hK.out _ _ (hd9.below) (fun hH => ?_)
          clear hK K
          try simp only [Act.put]
          refine wpAnyH_ready (rs := [20]) (by kernel_rfl) (by simp) ?_
          refine AllReadyH.cons rfl (fun K hK => ?_) AllReadyH.nil
          go_simp
          refine hK.out _ _ (hH) (fun hH => ?_)
          clear hK K
          try simp only [Act.put]
          refine wpAnyH_done (by kernel_rfl) ?_ _
          try simp only [Act.put]
          go_wp2_with fail
          exact ⟨⟨k + 1, r + 1, by omega, by go_num, by go_num, by omega, S3, hid (hp3.more (by omega) (Nat.le_refl _)), hd9⟩, by simp [intOf]; omega⟩
        · go_wp2_with fail
          refine wp_region_held_drew (S := fun W => Below wa.heap.size w4 W) (by kernel_rfl) (HDK.out.below.drew) (fun hH => ?_)
          refine wpAnyH_take (i := 0) (v := .pointer (some ⟨p, 0, none⟩)) rfl (by kernel_rfl) (by kernel_rfl) (by kernel_rfl) (fun _ _ _ h => h) (Or.inl ⟨by rfl, fun w' hw' => by clear hw'; go_simp⟩) hH ?_
          simp only [Act.put]
          refine wpAnyH_take (i := 1) (v := .slice (some ⟨g, o, none⟩) l5 cap5) rfl (by kernel_rfl) (by kernel_rfl) (by kernel_rfl) (fun _ _ _ h => h) (Or.inl ⟨by rfl, fun w' hw' => by clear hw'; go_simp⟩) hH ?_
          simp only [Act.put]
          refine wpAnyH_take (i := 2) (v := .int .i64 (k : Int)) rfl (by kernel_rfl) (by kernel_rfl) (by kernel_rfl) (fun _ _ _ h => h) (Or.inl ⟨by rfl, fun w' hw' => by clear hw'; go_simp⟩) hH ?_
          simp only [Act.put]
          refine wpAnyH_take (i := 3) (v := .pointer (some ⟨g, o + k, none⟩)) rfl (by kernel_rfl) (by kernel_rfl) (by kernel_rfl) (fun _ _ _ h => h) (Or.inl ⟨by rfl, fun w' hw' => by clear hw'; go_simp⟩) hH ?_
          simp only [Act.put]
          refine wpAnyH_take (i := 4) (v := .int .i64 y) rfl (by kernel_rfl) (by kernel_rfl) (by kernel_rfl) (fun _ _ _ h => h) (Or.inl ⟨by rfl, fun w' hw' => by have h := HC.out w' hw'; go_simp⟩) hH ?_
          simp only [Act.put]
          refine wpAnyH_take (i := 5) (v := .int .i64 (i0 : Int)) rfl (by kernel_rfl) (by kernel_rfl) (by kernel_rfl) (fun _ _ _ h => h) (Or.inl ⟨by rfl, fun w' hw' => by have h := HI.out; go_simp⟩) hH ?_
          simp only [Act.put]
          refine wpAnyH_take (i := 6) (v := .slice (some ⟨g, o, none⟩) l5 cap5) rfl (by kernel_rfl) (by kernel_rfl) (by kernel_rfl) (fun _ _ _ h => h) (Or.inl ⟨by rfl, fun w' hw' => by clear hw'; go_simp⟩) hH ?_
          simp only [Act.put]
          refine wpAnyH_take (i := 7) (v := .int .i64 (k : Int)) rfl (by kernel_rfl) (by kernel_rfl) (by kernel_rfl) (fun _ _ _ h => h) (Or.inl ⟨by rfl, fun w' hw' => by clear hw'; go_simp⟩) hH ?_
          simp only [Act.put]
          refine wpAnyH_take (i := 8) (v := .pointer (some ⟨g, o + k, none⟩)) rfl (by kernel_rfl) (by kernel_rfl) (by kernel_rfl) (fun _ _ _ h => h) (Or.inl ⟨by rfl, fun w' hw' => by clear hw'; go_simp⟩) hH ?_
          simp only [Act.put]
          refine wpAnyH_take (i := 9) (v := .int .i64 y) rfl (by kernel_rfl) (by kernel_rfl) (by kernel_rfl) (fun _ _ _ h => h) (Or.inl ⟨by rfl, fun w' hw' => by have h := HC.out w' hw'; go_simp⟩) hH ?_
          simp only [Act.put]
          refine wpAnyH_take (i := 10) (v := .int .i64 (y / 4)) rfl (by kernel_rfl) (by kernel_rfl) (by kernel_rfl) (fun _ _ _ h => h) (Or.inl ⟨by rfl, fun w' hw' => by clear hw'; go_simp⟩) hH ?_
          simp only [Act.put]
          refine wpAnyH_take (i := 11) (v := .int .i64 (a : Int)) rfl (by kernel_rfl) (by kernel_rfl) (by kernel_rfl) (fun _ _ _ h => h) (Or.inl ⟨by rfl, fun w' hw' => by have h := HA.out; go_simp⟩) hH ?_
          simp only [Act.put]
          refine wpAnyH_take (i := 12) (v := .slice (some ⟨g, o, none⟩) l5 cap5) rfl (by kernel_rfl) (by kernel_rfl) (by kernel_rfl) (fun _ _ _ h => h) (Or.inl ⟨by rfl, fun w' hw' => by clear hw'; go_simp⟩) hH ?_
          simp only [Act.put]
          refine wpAnyH_take (i := 13) (v := .int .i64 (k : Int)) rfl (by kernel_rfl) (by kernel_rfl) (by kernel_rfl) (fun _ _ _ h => h) (Or.inl ⟨by rfl, fun w' hw' => by clear hw'; go_simp⟩) hH ?_
          simp only [Act.put]
          refine wpAnyH_take (i := 14) (v := .pointer (some ⟨g, o + k, none⟩)) rfl (by kernel_rfl) (by kernel_rfl) (by kernel_rfl) (fun _ _ _ h => h) (Or.inl ⟨by rfl, fun w' hw' => by clear hw'; go_simp⟩) hH ?_
          simp only [Act.put]
          refine wpAnyH_take (i := 15) (v := .int .i64 y) rfl (by kernel_rfl) (by kernel_rfl) (by kernel_rfl) (fun _ _ _ h => h) (Or.inl ⟨by rfl, fun w' hw' => by have h := HC.out w' hw'; go_simp⟩) hH ?_
          simp only [Act.put]
          refine wpAnyH_take (i := 16) (v := .int .i64 (y / 1024)) rfl (by kernel_rfl) (by kernel_rfl) (by kernel_rfl) (fun _ _ _ h => h) (Or.inl ⟨by rfl, fun w' hw' => by clear hw'; go_simp⟩) hH ?_
          simp only [Act.put]
          refine wpAnyH_take (i := 17) (v := .int .i64 (b : Int)) rfl (by kernel_rfl) (by kernel_rfl) (by kernel_rfl) (fun _ _ _ h => h) (Or.inl ⟨by rfl, fun w' hw' => by have h := HBt.out; go_simp⟩) hH ?_
          simp only [Act.put]
          refine wpAnyH_take (i := 18) (v := .int .i64 (1 + (b : Int))) rfl (by kernel_rfl) (by kernel_rfl) (by kernel_rfl) (fun _ _ _ h => h) (Or.inl ⟨by rfl, fun w' hw' => by have h := HWR.out; go_simp⟩) hH ?_
          simp only [Act.put]
          refine wpAnyH_ready (rs := [19]) (by kernel_rfl) (by simp) ?_
          refine AllReadyH.cons rfl (fun K hK => ?_) AllReadyH.nil
          go_simp
          go_at_call 27
          refine (HROT.out _ HDK.out.drew).mono ?_
          rintro e w9 ⟨rfl, hd9⟩
          go_wp2_with fail
          refine hK.out _ _ (hd9.below) (fun hH => ?_)
          clear hK K
          try simp only [Act.put]
          refine wpAnyH_ready (rs := [20]) (by kernel_rfl) (by simp) ?_
          refine AllReadyH.cons rfl (fun K hK => ?_) AllReadyH.nil
          go_simp
          refine hK.out _ _ (hH) (fun hH => ?_)
          clear hK K
          try simp only [Act.put]
          refine wpAnyH_done (by kernel_rfl) ?_ _
          try simp only [Act.put]
          go_wp2_with fail
          exact ⟨⟨k + 1, r, by omega, by go_num, rfl, hr, S3, hid hp3, hd9⟩, by simp [intOf]; omega⟩
    case rest =>
    obtain ⟨r2, W1, rfl, rfl, hr2, S6, hph2, hdk⟩ := hcut
    have HDK2 := hid hdk
    clear hdk
    obtain ⟨t, n, er, hat, htr, htf⟩ := ph_read (hph2.out.more (m' := 3) (by omega) (Nat.le_refl _)) (Nat.le_refl _)
    have hcn6 := hph2.out.cnt
    have HRE : Hid (∀ W, Dk wa.heap.size w4 W p gs S6 → Calls Try.prog 29 #[.pointer (some ⟨p, 0, none⟩)] W fun e w' => e = .returned (.tuple #[.agg t.cells, .int .i64 (n : Int), .int .i64 0]) ∧ Dk wa.heap.size w4 w' p gs S6) := hid fun W h => dk_sread h (by omega) er
    obtain ⟨S7, e7, hp7, hl7⟩ := ph_fuse hph2.out 0
    obtain ⟨S8, e8, er8, hc8⟩ := ph_write2 hp7 (by simpa using hl7) t htr htf
    have hcn7 := hp7.cnt
    have HF0 : Hid (∀ W vk, HasD W p gs vk S6 → Calls Try.prog 21 #[.pointer (some ⟨p, 0, none⟩), .int .i64 0] W (DY W p gs vk S7 0)) := hid fun W vk h => dy_fuse h 0 (by omega) e7
    have HW2 : Hid (∀ W vk, HasD W p gs vk S7 → Calls Try.prog 19 #[.pointer (some ⟨p, 0, none⟩), .agg t.cells] W (DY W p gs vk S8 0)) := hid fun W vk h => by
      have := swrite_any p gs vk S7 t htf W h (by omega)
      rw [e8] at this
      exact this
    have HR2 : Hid (∀ W vk, HasD W p gs vk S8 → Calls Try.prog 29 #[.pointer (some ⟨p, 0, none⟩)] W fun e w' => e = .returned (.tuple #[.agg t.cells, .int .i64 4, .int .i64 0]) ∧ Below W.heap.size W w') := hid fun W vk h => by
      have := sread_any p gs vk S8 W h (by omega)
      rw [er8] at this
      exact this
    clear er e7 hp7 hl7 e8 er8 hc8 hcn6 hcn7 hph2 htr htf
    have hat : t = T := hat
    obtain rfl := hat.symm
    go_wp2_with (first
        | (go_at_call 29; obtain ⟨vk, k1, k2, k3, k4⟩ := md3.nb; have K4 := hid k4; clear k4; refine (HR2.out _ _ k1).mono ?_; rintro e w15 ⟨rfl, hx15⟩; have md4 := md3.below hx15; clear hx15 k1 k2 k3 K4)
        | (go_at_call 29; refine (HRE.out _ HDK2.out).mono ?_; rintro e w11 ⟨rfl, hd11⟩)
        | (refine wpl_store_st rfl (.tmp 22) (.tmp 171) rfl (n := 17) HZS.out w15.heap.size su0.cells T.cells rfl rfl (Row.new _ _ _) ?_ (hid rfl) (hid rfl) (cells_one _); intro w16 HR16 HB16; have md5 := md4.below (((Below.refl w15.heap.size w15).alloc (Nat.le_refl _) (.cells su0.cells 27)).trans (below_grown HB16 (Nat.le_refl _) (by simp))); clear HB16)
        | (refine wpl_store_st rfl (.tmp 19) (.tmp 138) rfl (n := 17) HZS.out w11.heap.size su0.cells T.cells rfl rfl (Row.new _ _ _) ?_ (hid rfl) (hid rfl) (cells_one _); intro w12 HR12 HB12; obtain ⟨vq, md, hq⟩ := md_new hd11 HR12 HB12; have HQ := hid hq; clear hq; have hb12 := (hd11.put HB12).below; have x6 := HR6.out _ hb12; have x7 := HR7.out _ hb12; have hlt12 : wa.heap.size ≤ w12.heap.size := (Dk.size_le (hd11.put HB12)); clear hd11 HB12)
        | (refine wpl_load_want rfl 27 (.tmp 22) rfl w15.heap.size rfl 27 T.cells (0, 0) _ HR16.arr Try.underlying27 rfl HZS.out ?_)
        | (refine wpl_load_want rfl 27 (.tmp 19) rfl w11.heap.size rfl 27 T.cells (0, 0) _ md5.row.arr Try.underlying27 rfl HZS.out ?_)
        | (refine wpl_load_want rfl 27 (.tmp 19) rfl w11.heap.size rfl 27 T.cells (0, 0) _ md2.row.arr Try.underlying27 rfl HZS.out ?_)
        | (refine wpl_load_want rfl 27 (.tmp 19) rfl w11.heap.size rfl 27 T.cells (0, 0) _ md.row.arr Try.underlying27 rfl HZS.out ?_)
        | (refine wpl_load_want rfl 27 (.tmp 6) rfl w.heap.size rfl 27 s.cells (0, 0) _ x6.arr Try.underlying27 rfl HZS.out ?_)
        | (refine wpl_load_want rfl 27 (.tmp 7) rfl (w.heap.size + 1) rfl 27 T.cells (0, 0) _ x7.arr Try.underlying27 rfl HZS.out ?_)
        | (go_at_call 19; obtain ⟨vk, k1, k2, k3, k4⟩ := md2.nb; have K4 := hid k4; clear k4; refine (HW2.out _ _ k1).mono ?_; rintro e w14 ⟨rfl, hx14⟩; have md3 := md2.step k2 k3 K4.out hx14; clear hx14 k1 k2 k3 K4)
        | (go_at_call 21; obtain ⟨vk, k1, k2, k3, k4⟩ := md.nb; have K4 := hid k4; clear k4; refine (HF0.out _ _ k1).mono ?_; rintro e w13 ⟨rfl, hx13⟩; have md2 := md.step k2 k3 K4.out hx13; clear hx13 k1 k2 k3 K4)
        | (refine wpl_nesu rfl T s false (by simp [HTS.out]) (.tmp 144) (.tmp 145) _ rfl rfl rfl ?_)
        | (refine wpl_nesu rfl T T true (by simp) (.tmp 148) (.tmp 149) _ rfl rfl rfl ?_)
        | (refine wpl_nesu rfl T T true (by simp) (.tmp 157) (.tmp 158) _ rfl rfl rfl ?_)
        | (refine wpl_eqsu rfl T T true (by simp) (.tmp 177) (.tmp 178) _ rfl rfl rfl ?_))
    go_ret
    exact ⟨rfl, HBB.out.trans (Below.mono (md_below hb12 hlt12 md5.dx HQ.out) HLE.out)⟩
  · obtain ⟨S5, e5, hp5⟩ := hst p3
    have HWT : Hid (∀ W, Dk wa.heap.size w4 W p gs S3 → Calls Try.prog 19 #[.pointer (some ⟨p, 0, none⟩), .agg T.cells] W (DP wa.heap.size w4 p gs S4 6)) := hid fun W h => dk_swrite h T hTf (by omega) e4
    have HON : Hid (∀ W, Dk wa.heap.size w4 W p gs S4 → Calls Try.prog 32 #[.pointer (some ⟨p, 0, none⟩)] W fun e w' => e = .returned (.bool false) ∧ w' = W) := hid fun W h => dk_on h ho4
    have HST : Hid (∀ W, Dk wa.heap.size w4 W p gs S4 → Calls Try.prog 25 #[.pointer (some ⟨p, 0, none⟩), .slice A3 l3 cap3] W (DP wa.heap.size w4 p gs S5 0)) := hid fun W h => dk_start h (by omega) p3 A3 l3 cap3 w.heap.size HL3.out (HRD3.out W h.below) HP3.out (by rw [← HL3.out]; exact hpn3) (fun hne g o hA e => by
      obtain ⟨g', o', e2, hlt, _⟩ := HRD3.out W h.below (by intro e; exact hne (by simpa [ints] using e))
      rw [hA] at e2
      cases e2
      have := HGS.out
      omega) e5
    clear e4 ho4 hst e5 hc4
    go_upto_block 2 with (first
        | (go_at_call 21; refine (HFUS.out _ HDK.out).mono ?_; rintro e w7 ⟨rfl, hd7⟩)
        | (refine wpl_load_want rfl 27 (.tmp 7) rfl (w.heap.size + 1) rfl 27 T.cells (0, 0) _ (HR7.out _ hd7.below).arr Try.underlying27 rfl HZS.out ?_)
        | (go_at_call 19; refine (HWT.out _ hd7).mono ?_; rintro e w8 ⟨rfl, hd8⟩)
        | (go_at_call 32; refine (HON.out _ hd8).mono ?_; rintro e w9 ⟨rfl, rfl⟩)
        | (go_at_call 25; refine (HST.out _ hd8).mono ?_; rintro e w10 ⟨rfl, hd10⟩))
    have HD8 := hid hd10
    clear hd8 hd7 hd10
    go_cut [15, 18] (fun rv iv wx => ∃ r : Nat, ∃ W1 : World, W1 = wx ∧ rv = .int .i64 (r : Int) ∧ r ≤ 2 ∧ ∃ S2, Hid (Ph (fun x => x = s ∨ x = T) S2 (r + 1) 16) ∧ Dk wa.heap.size w4 wx p gs S2)
    case first =>
      go_wp2_with fail
      go_loopw [15, 18] (fun rv iv wr => ∃ k r : Nat, k ≤ l5 ∧ iv = .int .i64 (k : Int) ∧ rv = .int .i64 (r : Int) ∧ r ≤ 2 ∧ ∃ S2, Hid (Ph (fun x => x = s ∨ x = T) S2 (r + 1) 16) ∧ Dk wa.heap.size w4 wr p gs S2) (fun _ iv _ => l5 - (intOf iv).toNat)
      case atStart => exact ⟨0, r, Nat.zero_le _, rfl, rfl, hr, S5, hid (hp5.more (by omega) (Nat.le_refl _)), HD8.out⟩
      case round =>
        obtain ⟨k, r, hk, rfl, rfl, hr, S2, hph, hdk⟩ := hrel
        have HDK := hid hdk
        clear hdk
        by_cases hkl : k < l5
        case neg =>
          go_wp2_with fail
          go_meet
          case rel => exact ⟨r, _, rfl, rfl, hr, S2, hph, HDK.out⟩
        case pos =>
        by_cases hr2 : r < 2
        case neg =>
          go_wp2_with fail
          go_meet
          case rel => exact ⟨r, _, rfl, rfl, hr, S2, hph, HDK.out⟩
        case pos =>
        obtain ⟨y, hy⟩ : ∃ y, (ints p5)[k]'(by rw [ints_len, ← HL5.out]; exact hkl) = .int .i64 y := ⟨p5[k]'(by rw [← HL5.out]; exact hkl), by simp [ints]⟩
        obtain ⟨g, o, hA, -, -⟩ := (HRD5.out _ HDK.out.below).at_ (j := k) (by rw [ints_len, ← HL5.out]; exact hkl)
        have HC : Hid (∀ W, Below wa.heap.size w4 W → W.cell? ⟨g, o + k, none⟩ = some (.int .i64 y)) := hid fun W hW => by
          obtain ⟨g', o', e, _, hc⟩ := (HRD5.out W hW).at_ (j := k) (by rw [ints_len, ← HL5.out]; exact hkl)
          rw [hA] at e
          cases e
          rw [hc, hy]
        clear hy
        subst hA
        obtain ⟨i0, hi, hi2⟩ := and_in y 3 3 (by decide) (by omega)
        obtain ⟨a, ha, ha2⟩ := and_in (y / 4) 255 255 (by decide) (by omega)
        obtain ⟨b, hb, hb2⟩ := and_in (y / 1024) 127 127 (by decide) (by omega)
        have HI := hid hi
        have HA := hid ha
        have HBt := hid hb
        have HWR : Hid (IntKind.i64.wrap (1 + (b : Int)) = 1 + (b : Int)) := hid (IntWalk.i64_in _ (by omega))
        obtain ⟨S3, x, hrot, hout⟩ := ph_rot hph.out (i := i0) (a := a) (b := b) (by omega) ha2 hb2
        have HROT : Hid (∀ W, Dk wa.heap.size w4 W p gs S2 → Calls Try.prog 27 #[.pointer (some ⟨p, 0, none⟩), .int .i64 (i0 : Int), .int .i64 (a : Int), .int .i64 (1 + (b : Int))] W (DP wa.heap.size w4 p gs S3 x)) := hid fun W h => dk_rot h _ _ _ hrot
        have h0k : (0 : Int) ≤ (k : Int) := by omega
        have hki : (k : Int) < (l5 : Int) := by omega
        clear hi ha hb hrot
        rcases hout with ⟨rfl, hp3⟩ | ⟨rfl, hp3⟩
        · go_wp2_with fail
          refine wp_region_held_drew (S := fun W => Below wa.heap.size w4 W) (by kernel_rfl) (HDK.out.below.drew) (fun hH => ?_)
          refine wpAnyH_take (i := 0) (v := .pointer (some ⟨p, 0, none⟩)) rfl (by kernel_rfl) (by kernel_rfl) (by kernel_rfl) (fun _ _ _ h => h) (Or.inl ⟨by rfl, fun w' hw' => by clear hw'; go_simp⟩) hH ?_
          simp only [Act.put]
          refine wpAnyH_take (i := 1) (v := .slice (some ⟨g, o, none⟩) l5 cap5) rfl (by kernel_rfl) (by kernel_rfl) (by kernel_rfl) (fun _ _ _ h => h) (Or.inl ⟨by rfl, fun w' hw' => by clear hw'; go_simp⟩) hH ?_
          simp only [Act.put]
          refine wpAnyH_take (i := 2) (v := .int .i64 (k : Int)) rfl (by kernel_rfl) (by kernel_rfl) (by kernel_rfl) (fun _ _ _ h => h) (Or.inl ⟨by rfl, fun w' hw' => by clear hw'; go_simp⟩) hH ?_
          simp only [Act.put]
          refine wpAnyH_take (i := 3) (v := .pointer (some ⟨g, o + k, none⟩)) rfl (by kernel_rfl) (by kernel_rfl) (by kernel_rfl) (fun _ _ _ h => h) (Or.inl ⟨by rfl, fun w' hw' => by clear hw'; go_simp⟩) hH ?_
          simp only [Act.put]
          refine wpAnyH_take (i := 4) (v := .int .i64 y) rfl (by kernel_rfl) (by kernel_rfl) (by kernel_rfl) (fun _ _ _ h => h) (Or.inl ⟨by rfl, fun w' hw' => by have h := HC.out w' hw'; go_simp⟩) hH ?_
          simp only [Act.put]
          refine wpAnyH_take (i := 5) (v := .int .i64 (i0 : Int)) rfl (by kernel_rfl) (by kernel_rfl) (by kernel_rfl) (fun _ _ _ h => h) (Or.inl ⟨by rfl, fun w' hw' => by have h := HI.out; go_simp⟩) hH ?_
          simp only [Act.put]
          refine wpAnyH_take (i := 6) (v := .slice (some ⟨g, o, none⟩) l5 cap5) rfl (by kernel_rfl) (by kernel_rfl) (by kernel_rfl) (fun _ _ _ h => h) (Or.inl ⟨by rfl, fun w' hw' => by clear hw'; go_simp⟩) hH ?_
          simp only [Act.put]
          refine wpAnyH_take (i := 7) (v := .int .i64 (k : Int)) rfl (by kernel_rfl) (by kernel_rfl) (by kernel_rfl) (fun _ _ _ h => h) (Or.inl ⟨by rfl, fun w' hw' => by clear hw'; go_simp⟩) hH ?_
          simp only [Act.put]
          refine wpAnyH_take (i := 8) (v := .pointer (some ⟨g, o + k, none⟩)) rfl (by kernel_rfl) (by kernel_rfl) (by kernel_rfl) (fun _ _ _ h => h) (Or.inl ⟨by rfl, fun w' hw' => by clear hw'; go_simp⟩) hH ?_
          simp only [Act.put]
          refine wpAnyH_take (i := 9) (v := .int .i64 y) rfl (by kernel_rfl) (by kernel_rfl) (by kernel_rfl) (fun _ _ _ h => h) (Or.inl ⟨by rfl, fun w' hw' => by have h := HC.out w' hw'; go_simp⟩) hH ?_
          simp only [Act.put]
          refine wpAnyH_take (i := 10) (v := .int .i64 (y / 4)) rfl (by kernel_rfl) (by kernel_rfl) (by kernel_rfl) (fun _ _ _ h => h) (Or.inl ⟨by rfl, fun w' hw' => by clear hw'; go_simp⟩) hH ?_
          simp only [Act.put]
          refine wpAnyH_take (i := 11) (v := .int .i64 (a : Int)) rfl (by kernel_rfl) (by kernel_rfl) (by kernel_rfl) (fun _ _ _ h => h) (Or.inl ⟨by rfl, fun w' hw' => by have h := HA.out; go_simp⟩) hH ?_
          simp only [Act.put]
          refine wpAnyH_take (i := 12) (v := .slice (some ⟨g, o, none⟩) l5 cap5) rfl (by kernel_rfl) (by kernel_rfl) (by kernel_rfl) (fun _ _ _ h => h) (Or.inl ⟨by rfl, fun w' hw' => by clear hw'; go_simp⟩) hH ?_
          simp only [Act.put]
          refine wpAnyH_take (i := 13) (v := .int .i64 (k : Int)) rfl (by kernel_rfl) (by kernel_rfl) (by kernel_rfl) (fun _ _ _ h => h) (Or.inl ⟨by rfl, fun w' hw' => by clear hw'; go_simp⟩) hH ?_
          simp only [Act.put]
          refine wpAnyH_take (i := 14) (v := .pointer (some ⟨g, o + k, none⟩)) rfl (by kernel_rfl) (by kernel_rfl) (by kernel_rfl) (fun _ _ _ h => h) (Or.inl ⟨by rfl, fun w' hw' => by clear hw'; go_simp⟩) hH ?_
          simp only [Act.put]
          refine wpAnyH_take (i := 15) (v := .int .i64 y) rfl (by kernel_rfl) (by kernel_rfl) (by kernel_rfl) (fun _ _ _ h => h) (Or.inl ⟨by rfl, fun w' hw' => by have h := HC.out w' hw'; go_simp⟩) hH ?_
          simp only [Act.put]
          refine wpAnyH_take (i := 16) (v := .int .i64 (y / 1024)) rfl (by kernel_rfl) (by kernel_rfl) (by kernel_rfl) (fun _ _ _ h => h) (Or.inl ⟨by rfl, fun w' hw' => by clear hw'; go_simp⟩) hH ?_
          simp only [Act.put]
          refine wpAnyH_take (i := 17) (v := .int .i64 (b : Int)) rfl (by kernel_rfl) (by kernel_rfl) (by kernel_rfl) (fun _ _ _ h => h) (Or.inl ⟨by rfl, fun w' hw' => by have h := HBt.out; go_simp⟩) hH ?_
          simp only [Act.put]
          refine wpAnyH_take (i := 18) (v := .int .i64 (1 + (b : Int))) rfl (by kernel_rfl) (by kernel_rfl) (by kernel_rfl) (fun _ _ _ h => h) (Or.inl ⟨by rfl, fun w' hw' => by have h := HWR.out; go_simp⟩) hH ?_
          simp only [Act.put]
          refine wpAnyH_ready (rs := [19]) (by kernel_rfl) (by simp) ?_
          refine AllReadyH.cons rfl (fun K hK => ?_) AllReadyH.nil
          go_simp
          go_at_call 27
          refine (HROT.out _ HDK.out.drew).mono ?_
          rintro e w9 ⟨rfl, hd9⟩
          go_wp2_with fail
          refine hK.out _ _ (hd9.below) (fun hH => ?_)
          clear hK K
          try simp only [Act.put]
          refine wpAnyH_ready (rs := [20]) (by kernel_rfl) (by simp) ?_
          refine AllReadyH.cons rfl (fun K hK => ?_) AllReadyH.nil
          go_simp
          refine hK.out _ _ (hH) (fun hH => ?_)
          clear hK K
          try simp only [Act.put]
          refine wpAnyH_done (by kernel_rfl) ?_ _
          try simp only [Act.put]
          go_wp2_with fail
          exact ⟨⟨k + 1, r + 1, by omega, by go_num, by go_num, by omega, S3, hid (hp3.more (by omega) (Nat.le_refl _)), hd9⟩, by simp [intOf]; omega⟩
        · go_wp2_with fail
          refine wp_region_held_drew (S := fun W => Below wa.heap.size w4 W) (by kernel_rfl) (HDK.out.below.drew) (fun hH => ?_)
          refine wpAnyH_take (i := 0) (v := .pointer (some ⟨p, 0, none⟩)) rfl (by kernel_rfl) (by kernel_rfl) (by kernel_rfl) (fun _ _ _ h => h) (Or.inl ⟨by rfl, fun w' hw' => by clear hw'; go_simp⟩) hH ?_
          simp only [Act.put]
          refine wpAnyH_take (i := 1) (v := .slice (some ⟨g, o, none⟩) l5 cap5) rfl (by kernel_rfl) (by kernel_rfl) (by kernel_rfl) (fun _ _ _ h => h) (Or.inl ⟨by rfl, fun w' hw' => by clear hw'; go_simp⟩) hH ?_
          simp only [Act.put]
          refine wpAnyH_take (i := 2) (v := .int .i64 (k : Int)) rfl (by kernel_rfl) (by kernel_rfl) (by kernel_rfl) (fun _ _ _ h => h) (Or.inl ⟨by rfl, fun w' hw' => by clear hw'; go_simp⟩) hH ?_
          simp only [Act.put]
          refine wpAnyH_take (i := 3) (v := .pointer (some ⟨g, o + k, none⟩)) rfl (by kernel_rfl) (by kernel_rfl) (by kernel_rfl) (fun _ _ _ h => h) (Or.inl ⟨by rfl, fun w' hw' => by clear hw'; go_simp⟩) hH ?_
          simp only [Act.put]
          refine wpAnyH_take (i := 4) (v := .int .i64 y) rfl (by kernel_rfl) (by kernel_rfl) (by kernel_rfl) (fun _ _ _ h => h) (Or.inl ⟨by rfl, fun w' hw' => by have h := HC.out w' hw'; go_simp⟩) hH ?_
          simp only [Act.put]
          refine wpAnyH_take (i := 5) (v := .int .i64 (i0 : Int)) rfl (by kernel_rfl) (by kernel_rfl) (by kernel_rfl) (fun _ _ _ h => h) (Or.inl ⟨by rfl, fun w' hw' => by have h := HI.out; go_simp⟩) hH ?_
          simp only [Act.put]
          refine wpAnyH_take (i := 6) (v := .slice (some ⟨g, o, none⟩) l5 cap5) rfl (by kernel_rfl) (by kernel_rfl) (by kernel_rfl) (fun _ _ _ h => h) (Or.inl ⟨by rfl, fun w' hw' => by clear hw'; go_simp⟩) hH ?_
          simp only [Act.put]
          refine wpAnyH_take (i := 7) (v := .int .i64 (k : Int)) rfl (by kernel_rfl) (by kernel_rfl) (by kernel_rfl) (fun _ _ _ h => h) (Or.inl ⟨by rfl, fun w' hw' => by clear hw'; go_simp⟩) hH ?_
          simp only [Act.put]
          refine wpAnyH_take (i := 8) (v := .pointer (some ⟨g, o + k, none⟩)) rfl (by kernel_rfl) (by kernel_rfl) (by kernel_rfl) (fun _ _ _ h => h) (Or.inl ⟨by rfl, fun w' hw' => by clear hw'; go_simp⟩) hH ?_
          simp only [Act.put]
          refine wpAnyH_take (i := 9) (v := .int .i64 y) rfl (by kernel_rfl) (by kernel_rfl) (by kernel_rfl) (fun _ _ _ h => h) (Or.inl ⟨by rfl, fun w' hw' => by have h := HC.out w' hw'; go_simp⟩) hH ?_
          simp only [Act.put]
          refine wpAnyH_take (i := 10) (v := .int .i64 (y / 4)) rfl (by kernel_rfl) (by kernel_rfl) (by kernel_rfl) (fun _ _ _ h => h) (Or.inl ⟨by rfl, fun w' hw' => by clear hw'; go_simp⟩) hH ?_
          simp only [Act.put]
          refine wpAnyH_take (i := 11) (v := .int .i64 (a : Int)) rfl (by kernel_rfl) (by kernel_rfl) (by kernel_rfl) (fun _ _ _ h => h) (Or.inl ⟨by rfl, fun w' hw' => by have h := HA.out; go_simp⟩) hH ?_
          simp only [Act.put]
          refine wpAnyH_take (i := 12) (v := .slice (some ⟨g, o, none⟩) l5 cap5) rfl (by kernel_rfl) (by kernel_rfl) (by kernel_rfl) (fun _ _ _ h => h) (Or.inl ⟨by rfl, fun w' hw' => by clear hw'; go_simp⟩) hH ?_
          simp only [Act.put]
          refine wpAnyH_take (i := 13) (v := .int .i64 (k : Int)) rfl (by kernel_rfl) (by kernel_rfl) (by kernel_rfl) (fun _ _ _ h => h) (Or.inl ⟨by rfl, fun w' hw' => by clear hw'; go_simp⟩) hH ?_
          simp only [Act.put]
          refine wpAnyH_take (i := 14) (v := .pointer (some ⟨g, o + k, none⟩)) rfl (by kernel_rfl) (by kernel_rfl) (by kernel_rfl) (fun _ _ _ h => h) (Or.inl ⟨by rfl, fun w' hw' => by clear hw'; go_simp⟩) hH ?_
          simp only [Act.put]
          refine wpAnyH_take (i := 15) (v := .int .i64 y) rfl (by kernel_rfl) (by kernel_rfl) (by kernel_rfl) (fun _ _ _ h => h) (Or.inl ⟨by rfl, fun w' hw' => by have h := HC.out w' hw'; go_simp⟩) hH ?_
          simp only [Act.put]
          refine wpAnyH_take (i := 16) (v := .int .i64 (y / 1024)) rfl (by kernel_rfl) (by kernel_rfl) (by kernel_rfl) (fun _ _ _ h => h) (Or.inl ⟨by rfl, fun w' hw' => by clear hw'; go_simp⟩) hH ?_
          simp only [Act.put]
          refine wpAnyH_take (i := 17) (v := .int .i64 (b : Int)) rfl (by kernel_rfl) (by kernel_rfl) (by kernel_rfl) (fun _ _ _ h => h) (Or.inl ⟨by rfl, fun w' hw' => by have h := HBt.out; go_simp⟩) hH ?_
          simp only [Act.put]
          refine wpAnyH_take (i := 18) (v := .int .i64 (1 + (b : Int))) rfl (by kernel_rfl) (by kernel_rfl) (by kernel_rfl) (fun _ _ _ h => h) (Or.inl ⟨by rfl, fun w' hw' => by have h := HWR.out; go_simp⟩) hH ?_
          simp only [Act.put]
          refine wpAnyH_ready (rs := [19]) (by kernel_rfl) (by simp) ?_
          refine AllReadyH.cons rfl (fun K hK => ?_) AllReadyH.nil
          go_simp
          go_at_call 27
          refine (HROT.out _ HDK.out.drew).mono ?_
          rintro e w9 ⟨rfl, hd9⟩
          go_wp2_with fail
          refine hK.out _ _ (hd9.below) (fun hH => ?_)
          clear hK K
          try simp only [Act.put]
          refine wpAnyH_ready (rs := [20]) (by kernel_rfl) (by simp) ?_
          refine AllReadyH.cons rfl (fun K hK => ?_) AllReadyH.nil
          go_simp
          refine hK.out _ _ (hH) (fun hH => ?_)
          clear hK K
          try simp only [Act.put]
          refine wpAnyH_done (by kernel_rfl) ?_ _
          try simp only [Act.put]
          go_wp2_with fail
          exact ⟨⟨k + 1, r, by omega, by go_num, rfl, hr, S3, hid hp3, hd9⟩, by simp [intOf]; omega⟩
    case rest =>
    obtain ⟨r2, W1, rfl, rfl, hr2, S6, hph2, hdk⟩ := hcut
    have HDK2 := hid hdk
    clear hdk
    obtain ⟨t, n, er, hat, htr, htf⟩ := ph_read (hph2.out.more (m' := 3) (by omega) (Nat.le_refl _)) (Nat.le_refl _)
    have hcn6 := hph2.out.cnt
    have HRE : Hid (∀ W, Dk wa.heap.size w4 W p gs S6 → Calls Try.prog 29 #[.pointer (some ⟨p, 0, none⟩)] W fun e w' => e = .returned (.tuple #[.agg t.cells, .int .i64 (n : Int), .int .i64 0]) ∧ Dk wa.heap.size w4 w' p gs S6) := hid fun W h => dk_sread h (by omega) er
    obtain ⟨S7, e7, hp7, hl7⟩ := ph_fuse hph2.out 0
    obtain ⟨S8, e8, er8, hc8⟩ := ph_write2 hp7 (by simpa using hl7) t htr htf
    have hcn7 := hp7.cnt
    have HF0 : Hid (∀ W vk, HasD W p gs vk S6 → Calls Try.prog 21 #[.pointer (some ⟨p, 0, none⟩), .int .i64 0] W (DY W p gs vk S7 0)) := hid fun W vk h => dy_fuse h 0 (by omega) e7
    have HW2 : Hid (∀ W vk, HasD W p gs vk S7 → Calls Try.prog 19 #[.pointer (some ⟨p, 0, none⟩), .agg t.cells] W (DY W p gs vk S8 0)) := hid fun W vk h => by
      have := swrite_any p gs vk S7 t htf W h (by omega)
      rw [e8] at this
      exact this
    have HR2 : Hid (∀ W vk, HasD W p gs vk S8 → Calls Try.prog 29 #[.pointer (some ⟨p, 0, none⟩)] W fun e w' => e = .returned (.tuple #[.agg t.cells, .int .i64 4, .int .i64 0]) ∧ Below W.heap.size W w') := hid fun W vk h => by
      have := sread_any p gs vk S8 W h (by omega)
      rw [er8] at this
      exact this
    clear er e7 hp7 hl7 e8 er8 hc8 hcn6 hcn7 hph2 htr htf
    rcases hat with hat | hat
    · obtain rfl := hat.symm
      go_wp2_with (first
          | (go_at_call 29; obtain ⟨vk, k1, k2, k3, k4⟩ := md3.nb; have K4 := hid k4; clear k4; refine (HR2.out _ _ k1).mono ?_; rintro e w15 ⟨rfl, hx15⟩; have md4 := md3.below hx15; clear hx15 k1 k2 k3 K4)
          | (go_at_call 29; refine (HRE.out _ HDK2.out).mono ?_; rintro e w11 ⟨rfl, hd11⟩)
          | (refine wpl_store_st rfl (.tmp 22) (.tmp 171) rfl (n := 17) HZS.out w15.heap.size su0.cells s.cells rfl rfl (Row.new _ _ _) ?_ (hid rfl) (hid rfl) (cells_one _); intro w16 HR16 HB16; have md5 := md4.below (((Below.refl w15.heap.size w15).alloc (Nat.le_refl _) (.cells su0.cells 27)).trans (below_grown HB16 (Nat.le_refl _) (by simp))); clear HB16)
          | (refine wpl_store_st rfl (.tmp 19) (.tmp 138) rfl (n := 17) HZS.out w11.heap.size su0.cells s.cells rfl rfl (Row.new _ _ _) ?_ (hid rfl) (hid rfl) (cells_one _); intro w12 HR12 HB12; obtain ⟨vq, md, hq⟩ := md_new hd11 HR12 HB12; have HQ := hid hq; clear hq; have hb12 := (hd11.put HB12).below; have x6 := HR6.out _ hb12; have x7 := HR7.out _ hb12; have hlt12 : wa.heap.size ≤ w12.heap.size := (Dk.size_le (hd11.put HB12)); clear hd11 HB12)
          | (refine wpl_load_want rfl 27 (.tmp 22) rfl w15.heap.size rfl 27 s.cells (0, 0) _ HR16.arr Try.underlying27 rfl HZS.out ?_)
          | (refine wpl_load_want rfl 27 (.tmp 19) rfl w11.heap.size rfl 27 s.cells (0, 0) _ md5.row.arr Try.underlying27 rfl HZS.out ?_)
          | (refine wpl_load_want rfl 27 (.tmp 19) rfl w11.heap.size rfl 27 s.cells (0, 0) _ md2.row.arr Try.underlying27 rfl HZS.out ?_)
          | (refine wpl_load_want rfl 27 (.tmp 19) rfl w11.heap.size rfl 27 s.cells (0, 0) _ md.row.arr Try.underlying27 rfl HZS.out ?_)
          | (refine wpl_load_want rfl 27 (.tmp 6) rfl w.heap.size rfl 27 s.cells (0, 0) _ x6.arr Try.underlying27 rfl HZS.out ?_)
          | (refine wpl_load_want rfl 27 (.tmp 7) rfl (w.heap.size + 1) rfl 27 T.cells (0, 0) _ x7.arr Try.underlying27 rfl HZS.out ?_)
          | (go_at_call 19; obtain ⟨vk, k1, k2, k3, k4⟩ := md2.nb; have K4 := hid k4; clear k4; refine (HW2.out _ _ k1).mono ?_; rintro e w14 ⟨rfl, hx14⟩; have md3 := md2.step k2 k3 K4.out hx14; clear hx14 k1 k2 k3 K4)
          | (go_at_call 21; obtain ⟨vk, k1, k2, k3, k4⟩ := md.nb; have K4 := hid k4; clear k4; refine (HF0.out _ _ k1).mono ?_; rintro e w13 ⟨rfl, hx13⟩; have md2 := md.step k2 k3 K4.out hx13; clear hx13 k1 k2 k3 K4)
          | (refine wpl_nesu rfl s s true (by simp) (.tmp 144) (.tmp 145) _ rfl rfl rfl ?_)
          | (refine wpl_eqsu rfl s s true (by simp) (.tmp 177) (.tmp 178) _ rfl rfl rfl ?_))
      go_ret
      exact ⟨rfl, HBB.out.trans (Below.mono (md_below hb12 hlt12 md5.dx HQ.out) HLE.out)⟩
    · obtain rfl := hat.symm
      go_wp2_with (first
          | (go_at_call 29; obtain ⟨vk, k1, k2, k3, k4⟩ := md3.nb; have K4 := hid k4; clear k4; refine (HR2.out _ _ k1).mono ?_; rintro e w15 ⟨rfl, hx15⟩; have md4 := md3.below hx15; clear hx15 k1 k2 k3 K4)
          | (go_at_call 29; refine (HRE.out _ HDK2.out).mono ?_; rintro e w11 ⟨rfl, hd11⟩)
          | (refine wpl_store_st rfl (.tmp 22) (.tmp 171) rfl (n := 17) HZS.out w15.heap.size su0.cells T.cells rfl rfl (Row.new _ _ _) ?_ (hid rfl) (hid rfl) (cells_one _); intro w16 HR16 HB16; have md5 := md4.below (((Below.refl w15.heap.size w15).alloc (Nat.le_refl _) (.cells su0.cells 27)).trans (below_grown HB16 (Nat.le_refl _) (by simp))); clear HB16)
          | (refine wpl_store_st rfl (.tmp 19) (.tmp 138) rfl (n := 17) HZS.out w11.heap.size su0.cells T.cells rfl rfl (Row.new _ _ _) ?_ (hid rfl) (hid rfl) (cells_one _); intro w12 HR12 HB12; obtain ⟨vq, md, hq⟩ := md_new hd11 HR12 HB12; have HQ := hid hq; clear hq; have hb12 := (hd11.put HB12).below; have x6 := HR6.out _ hb12; have x7 := HR7.out _ hb12; have hlt12 : wa.heap.size ≤ w12.heap.size := (Dk.size_le (hd11.put HB12)); clear hd11 HB12)
          | (refine wpl_load_want rfl 27 (.tmp 22) rfl w15.heap.size rfl 27 T.cells (0, 0) _ HR16.arr Try.underlying27 rfl HZS.out ?_)
          | (refine wpl_load_want rfl 27 (.tmp 19) rfl w11.heap.size rfl 27 T.cells (0, 0) _ md5.row.arr Try.underlying27 rfl HZS.out ?_)
          | (refine wpl_load_want rfl 27 (.tmp 19) rfl w11.heap.size rfl 27 T.cells (0, 0) _ md2.row.arr Try.underlying27 rfl HZS.out ?_)
          | (refine wpl_load_want rfl 27 (.tmp 19) rfl w11.heap.size rfl 27 T.cells (0, 0) _ md.row.arr Try.underlying27 rfl HZS.out ?_)
          | (refine wpl_load_want rfl 27 (.tmp 6) rfl w.heap.size rfl 27 s.cells (0, 0) _ x6.arr Try.underlying27 rfl HZS.out ?_)
          | (refine wpl_load_want rfl 27 (.tmp 7) rfl (w.heap.size + 1) rfl 27 T.cells (0, 0) _ x7.arr Try.underlying27 rfl HZS.out ?_)
          | (go_at_call 19; obtain ⟨vk, k1, k2, k3, k4⟩ := md2.nb; have K4 := hid k4; clear k4; refine (HW2.out _ _ k1).mono ?_; rintro e w14 ⟨rfl, hx14⟩; have md3 := md2.step k2 k3 K4.out hx14; clear hx14 k1 k2 k3 K4)
          | (go_at_call 21; obtain ⟨vk, k1, k2, k3, k4⟩ := md.nb; have K4 := hid k4; clear k4; refine (HF0.out _ _ k1).mono ?_; rintro e w13 ⟨rfl, hx13⟩; have md2 := md.step k2 k3 K4.out hx13; clear hx13 k1 k2 k3 K4)
          | (refine wpl_nesu rfl T s false (by simp [HTS.out]) (.tmp 144) (.tmp 145) _ rfl rfl rfl ?_)
          | (refine wpl_nesu rfl T T true (by simp) (.tmp 148) (.tmp 149) _ rfl rfl rfl ?_)
          | (refine wpl_eqsu rfl T T true (by simp) (.tmp 177) (.tmp 178) _ rfl rfl rfl ?_))
      go_ret
      exact ⟨rfl, HBB.out.trans (Below.mono (md_below hb12 hlt12 md5.dx HQ.out) HLE.out)⟩
end Go.Proofs.Ytogchfpecbmocaa
