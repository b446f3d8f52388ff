/-
  The walk of SuperLost.
-/
import Derived.Test.YtogchfpecbmocaaM19
namespace Go.Proofs.Ytogchfpecbmocaa
open Go.RowKit
set_option maxRecDepth 10000

theorem and_le (n m : Int) (k : Nat) (hm : (BitVec.ofInt 64 m).toNat ≤ k) (hk : k ≤ 1000) : ∃ a : Nat, bits .and .i64 n m = (a : Int) ∧ a ≤ k := by
  have h1 : ((BitVec.ofInt 64 n) &&& (BitVec.ofInt 64 m)).toNat ≤ k := by
    rw [BitVec.toNat_and]
    exact Nat.le_trans Nat.and_le_right hm
  refine ⟨((BitVec.ofInt 64 n) &&& (BitVec.ofInt 64 m)).toNat, ?_, h1⟩
  show IntKind.i64.wrap (((BitVec.ofInt 64 n) &&& (BitVec.ofInt 64 m)).toNat : Int) = _
  rw [IntKind.wrap_i64]
  omega
/-- k copies have rotted -/
structure Lo (s : Su) (k : Nat) (S : Sp) : Prop where
  cl : Cl S
  ks : Ks S fun i => if i < k then none else some s
  cnt : S.count ≤ 100
theorem lo_rot {s : Su} {k : Nat} {S : Sp} (h : Lo s k S) (hk : k < 4) (a b : Nat) (ha : a ≤ 255) (hb : b ≤ 127) : ∃ S', S.rot k a (1 + (b : Int)) = (S', 0) ∧ Lo s (k + 1) S' := by
  have e : (1 + (b : Int)) = ((1 + b : Nat) : Int) := by omega
  rw [e]
  rcases rot_cl h.cl.way h.cl.ln h.ks (i := k) (a := a) (m := 1 + b) hk (by omega) (by omega) (by omega) with ⟨_, h2⟩ | ⟨S', x, e1, _, o1, o2, _, o4, _, ln, ks⟩
  · simp at h2
  · refine ⟨S', e1, ⟨by rw [o1]; exact h.cl.on, by rw [o2]; exact h.cl.way, ln⟩, fun i hi => ?_, by rw [o4]; exact h.cnt⟩
    have this : Kc (if i = k then none else if i < k then none else some s) (sec S' i) := ks i hi
    show Kc (if i < k + 1 then none else some s) (sec S' i)
    by_cases hik : i = k
    · subst hik
      rw [if_pos rfl] at this
      rw [if_pos (by omega)]
      exact this
    · rw [if_neg hik] at this
      by_cases hlt : i < k
      · rw [if_pos hlt] at this
        rw [if_pos (by omega)]
        exact this
      · rw [if_neg hlt] at this
        rw [if_neg (by omega)]
        exact this
theorem lo_read {s : Su} {S : Sp} (h : Lo s 4 S) : readU S = (su0, 0, 11) := read_none h.cl fun i hi => by
  have h1 : Kc (if i < 4 then none else some s) (sec S i) := h.ks i hi
  rw [if_pos hi] at h1
  exact has_kc h1
set_option maxHeartbeats 2000000 in
theorem lost_law (s : Su) (hf : s.fits) (l : List Int) (hl : l.length = 4) (w : World) : Calls Try.prog 7 #[s.val, .agg (ints l).toArray] w (VE w (.bool true)) := by
  have HZS := hid superSize
  have HN := hid (fun W => new4 4 (by omega) (by omega) 4 rfl W)
  have HAW := hid (fun W => awake_any W)
  have HRI : Hid (∀ W, Calls Try.prog 11 #[.agg s.cells] W (VE W (.bool (decide (SR s))))) := hid fun W => right_any s W
  show Calls Try.prog 7 #[.agg s.cells, .agg (ints l).toArray] w _
  have H0 : Hid (Row ((w.alloc (.cells s.cells 27)).alloc (.cells (ints l).toArray 66)) w.heap.size 27 s.cells.toList) := hid ((Row.new _ _ _).alloc _)
  have H1 : Hid (Row ((w.alloc (.cells s.cells 27)).alloc (.cells (ints l).toArray 66)) (w.heap.size + 1) 66 (ints l)) := hid (alloc2_new _ _ _)
  have HB : Hid (Below w.heap.size w ((w.alloc (.cells s.cells 27)).alloc (.cells (ints l).toArray 66))) := hid (((Below.refl _ _).alloc (Nat.le_refl _) _).alloc (by simp) _)
  have HLT : Hid (w.heap.size + 2 = ((w.alloc (.cells s.cells 27)).alloc (.cells (ints l).toArray 66)).heap.size) := hid (by simp)
  have HGET : Hid (∀ k, k < 4 → ∃ y, (ints l)[k]? = some (.int .i64 y)) := hid fun k h => ⟨l[k], by simp [ints, List.getElem?_eq_getElem (show k < l.length by omega)]⟩
  clear hl
  by_cases hs : SR s
  · obtain ⟨S1, hw, hc1, hk1, _, _⟩ := first_ok 4 (Nat.le_refl _) s hs hf
    have hcnt := writeU_count (Sp.mk0 4) s
    rw [hw] at hcnt
    have hcnt : S1.count ≤ 8 := hcnt
    have HLO : Hid (Lo s 0 S1) := hid ⟨hc1, fun i hi => hk1 i hi, by have : (Sp.mk0 4).count = 0 := rfl; omega⟩
    have HW : Hid (∀ W0 W p gs, Dk W0.heap.size W0 W p gs (Sp.mk0 4) → Calls Try.prog 19 #[.pointer (some ⟨p, 0, none⟩), .agg s.cells] W (DP W0.heap.size W0 p gs S1 0)) := hid fun W0 W p gs h => dk_swrite h s hf (by simp [Sp.mk0]) hw
    generalize Sp.mk0 4 = S0 at *
    clear hw hc1 hk1 hcnt hs hf HRI
    go_enter Try.func7, Try.ntmps7
    go_wp2_with (first
      | (go_at_call 8; refine (HAW.out _).mono ?_; rintro e wa ⟨rfl, hba⟩; have r0 := H0.out.below hba (by have := HLT.out; omega); have r1 := H1.out.below hba (by have := HLT.out; omega); have bb := HB.out.trans (hba.mono (by have := HLT.out; omega)); have hlt := hba.size; rw [← HLT.out] at hlt; clear hba)
      | (go_at_call 17; refine (HN.out _).mono ?_; rintro e w1 ⟨p, gs, rfl, hd⟩; have r0' := r0.below hd.below (by omega))
      | (refine wpList_load_row rfl 27 (.tmp 2) rfl w.heap.size rfl 27 s.cells (0, 0) _ r0'.arr Try.underlying27 rfl HZS.out ?_)
      | (go_at_call 19; refine (HW.out _ _ _ _ hd).mono ?_; rintro e w2 ⟨rfl, hd2⟩))
    have HD2 := hid hd2
    have R1 := hid r1
    have BB := hid bb
    clear hd hd2 r0 r1 r0' bb H0 H1 HB HW HN HAW
    go_loopw [7] (fun i wr => ∃ k : Nat, k ≤ 4 ∧ i = .int .i64 k ∧ ∃ Sk, Hid (Lo s k Sk) ∧ Dk wa.heap.size wa wr p gs Sk) (fun i _ => 4 - (intOf i).toNat)
    case atStart => exact ⟨0, by omega, rfl, S1, HLO, HD2.out⟩
    case round =>
      obtain ⟨k, hk, rfl, Sk, hlo, hdk⟩ := hrel
      have HDK := hid hdk
      clear hdk
      by_cases hk4 : k < 4
      · obtain ⟨y, hy⟩ := HGET.out k hk4
        have HC : Hid (∀ W, Below wa.heap.size wa W → W.cell? ⟨w.heap.size + 1, k, none⟩ = some (.int .i64 y)) := hid fun W hW => ((R1.out.below hW (by omega)).cell k).trans hy
        clear hy
        obtain ⟨a, ha, ha2⟩ := and_le y 255 255 (by decide) (by omega)
        obtain ⟨b, hb, hb2⟩ := and_le (y / 256) 127 127 (by decide) (by omega)
        obtain ⟨S2, hrot, hlo2⟩ := lo_rot hlo.out hk4 a b ha2 hb2
        have HROT : Hid (∀ W, Dk wa.heap.size wa W p gs Sk → Calls Try.prog 27 #[.pointer (some ⟨p, 0, none⟩), .int .i64 (k : Int), .int .i64 (a : Int), .int .i64 (1 + (b : Int))] W (DP wa.heap.size wa p gs S2 0)) := hid fun W h => dk_rot h _ _ _ hrot
        have HA := hid ha
        have HWR : Hid (IntKind.i64.wrap (1 + (b : Int)) = 1 + (b : Int)) := hid (IntWalk.i64_in _ (by omega))
        have HBB := hid hb
        have HLO2 := hid hlo2
        have h0k : (0 : Int) ≤ (k : Int) := by omega
        have hk4i : (k : Int) < 4 := by omega
        clear ha hb hrot hlo2
        go_wp2_with fail
        refine wp_region_held_drew (S := fun W => Below wa.heap.size wa W) (by kernel_rfl) (HDK.out.below.drew) (fun hH => ?_)
        refine wpAnyH_take (i := 0) (v := .pointer (some ⟨p, 0, none⟩)) rfl (by kernel_rfl) (by kernel_rfl) (by kernel_rfl) (fun _ _ _ h => h) (Or.inl ⟨by rfl, fun w' hw' => by clear hw'; go_simp⟩) hH ?_
        simp only [Act.put]
        refine wpAnyH_take (i := 1) (v := .int .i64 (k : Int)) rfl (by kernel_rfl) (by kernel_rfl) (by kernel_rfl) (fun _ _ _ h => h) (Or.inl ⟨by rfl, fun w' hw' => by clear hw'; go_simp⟩) hH ?_
        simp only [Act.put]
        refine wpAnyH_take (i := 2) (v := .int .i64 (k : Int)) rfl (by kernel_rfl) (by kernel_rfl) (by kernel_rfl) (fun _ _ _ h => h) (Or.inl ⟨by rfl, fun w' hw' => by clear hw'; go_simp⟩) hH ?_
        simp only [Act.put]
        refine wpAnyH_take (i := 3) (v := .pointer (some ⟨w.heap.size + 1, k, none⟩)) rfl (by kernel_rfl) (by kernel_rfl) (by kernel_rfl) (fun _ _ _ h => h) (Or.inl ⟨by rfl, fun w' hw' => by clear hw'; go_simp⟩) hH ?_
        simp only [Act.put]
        refine wpAnyH_take (i := 4) (v := .int .i64 y) rfl (by kernel_rfl) (by kernel_rfl) (by kernel_rfl) (fun _ _ _ h => h) (Or.inl ⟨by rfl, fun w' hw' => by have h := HC.out w' hw'; go_simp⟩) hH ?_
        simp only [Act.put]
        refine wpAnyH_take (i := 5) (v := .int .i64 (a : Int)) rfl (by kernel_rfl) (by kernel_rfl) (by kernel_rfl) (fun _ _ _ h => h) (Or.inl ⟨by rfl, fun w' hw' => by have h := HA.out; go_simp⟩) hH ?_
        simp only [Act.put]
        refine wpAnyH_take (i := 6) (v := .int .i64 (k : Int)) rfl (by kernel_rfl) (by kernel_rfl) (by kernel_rfl) (fun _ _ _ h => h) (Or.inl ⟨by rfl, fun w' hw' => by clear hw'; go_simp⟩) hH ?_
        simp only [Act.put]
        refine wpAnyH_take (i := 7) (v := .pointer (some ⟨w.heap.size + 1, k, none⟩)) rfl (by kernel_rfl) (by kernel_rfl) (by kernel_rfl) (fun _ _ _ h => h) (Or.inl ⟨by rfl, fun w' hw' => by clear hw'; go_simp⟩) hH ?_
        simp only [Act.put]
        refine wpAnyH_take (i := 8) (v := .int .i64 y) rfl (by kernel_rfl) (by kernel_rfl) (by kernel_rfl) (fun _ _ _ h => h) (Or.inl ⟨by rfl, fun w' hw' => by have h := HC.out w' hw'; go_simp⟩) hH ?_
        simp only [Act.put]
        refine wpAnyH_take (i := 9) (v := .int .i64 (y / 256)) rfl (by kernel_rfl) (by kernel_rfl) (by kernel_rfl) (fun _ _ _ h => h) (Or.inl ⟨by rfl, fun w' hw' => by clear hw'; go_simp⟩) hH ?_
        simp only [Act.put]
        refine wpAnyH_take (i := 10) (v := .int .i64 (b : Int)) rfl (by kernel_rfl) (by kernel_rfl) (by kernel_rfl) (fun _ _ _ h => h) (Or.inl ⟨by rfl, fun w' hw' => by have h := HBB.out; go_simp⟩) hH ?_
        simp only [Act.put]
        refine wpAnyH_take (i := 11) (v := .int .i64 (1 + (b : Int))) rfl (by kernel_rfl) (by kernel_rfl) (by kernel_rfl) (fun _ _ _ h => h) (Or.inl ⟨by rfl, fun w' hw' => by have h := HWR.out; go_simp⟩) hH ?_
        simp only [Act.put]
        refine wpAnyH_ready (rs := [12]) (by kernel_rfl) (by simp) ?_
        refine AllReadyH.cons rfl (fun K hK => ?_) AllReadyH.nil
        go_simp
        go_at_call 27
        refine (HROT.out _ HDK.out.drew).mono ?_
        rintro e w5 ⟨rfl, hd5⟩
        go_wp2_with fail
        refine hK.out _ _ (hd5.below) (fun hH => ?_)
        clear hK K
        try simp only [Act.put]
        refine wpAnyH_done (by kernel_rfl) ?_ _
        try simp only [Act.put]
        go_wp2_with fail
        exact ⟨⟨k + 1, by omega, by go_num, S2, HLO2, hd5⟩, by simp [intOf]; omega⟩
      · obtain rfl : k = 4 := by omega
        have hcn := hlo.out.cnt
        have HRE : Hid (∀ W, Dk wa.heap.size wa W p gs Sk → Calls Try.prog 29 #[.pointer (some ⟨p, 0, none⟩)] W fun e w' => e = .returned (.tuple #[.agg su0.cells, .int .i64 0, .int .i64 11]) ∧ Dk wa.heap.size wa w' p gs Sk) := hid fun W h => dk_sread h (by omega) (lo_read hlo.out)
        clear hcn
        go_wp2_with (first
          | (go_at_call 29; refine (HRE.out _ HDK.out).mono ?_; rintro e w5 ⟨rfl, hd5⟩)
          | (refine wpl_store_st rfl (.tmp 8) (.tmp 46) rfl (n := 17) HZS.out w5.heap.size su0.cells su0.cells rfl rfl (Row.new _ _ _) ?_ (hid rfl) (hid rfl) (cells_one _); intro w6 HR6 HB6; have hd6 := hd5.put HB6)
          | (refine wpList_load_row rfl 27 (.tmp 8) rfl w5.heap.size rfl 27 su0.cells (0, 0) _ HR6.arr Try.underlying27 rfl HZS.out ?_)
          | (refine wpl_eqsu rfl su0 su0 true (by simp) (.tmp 49) (.tmp 50) _ rfl rfl rfl ?_))
        go_ret
        exact ⟨rfl, BB.out.trans (hd6.below.mono BB.out.size)⟩
  · rw [decide_eq_false hs] at HRI
    have hw : writeU (Sp.mk0 4) s = (Sp.mk0 4, 4) := by unfold writeU; rw [if_neg hs]
    have HW : Hid (∀ W0 W p gs, Dk W0.heap.size W0 W p gs (Sp.mk0 4) → Calls Try.prog 19 #[.pointer (some ⟨p, 0, none⟩), .agg s.cells] W (DP W0.heap.size W0 p gs (Sp.mk0 4) 4)) := hid fun W0 W p gs h => dk_swrite h s hf (by simp [Sp.mk0]) hw
    generalize Sp.mk0 4 = S0 at *
    clear hw hs hf
    go_enter Try.func7, Try.ntmps7
    go_wp2_with (first
      | (go_at_call 8; refine (HAW.out _).mono ?_; rintro e wa ⟨rfl, hba⟩; have r0 := H0.out.below hba (by have := HLT.out; omega); have bb := HB.out.trans (hba.mono (by have := HLT.out; omega)); have hlt := hba.size; rw [← HLT.out] at hlt; clear hba)
      | (go_at_call 17; refine (HN.out _).mono ?_; rintro e w1 ⟨p, gs, rfl, hd⟩; have r0' := r0.below hd.below (by omega))
      | (refine wpList_load_row rfl 27 (.tmp 2) rfl w.heap.size rfl 27 s.cells (0, 0) _ r2.arr Try.underlying27 rfl HZS.out ?_)
      | (refine wpList_load_row rfl 27 (.tmp 2) rfl w.heap.size rfl 27 s.cells (0, 0) _ r0'.arr Try.underlying27 rfl HZS.out ?_)
      | (go_at_call 19; refine (HW.out _ _ _ _ hd).mono ?_; rintro e w2 ⟨rfl, hd2⟩; have r2 := r0.below hd2.below (by omega))
      | (go_at_call 11; refine (HRI.out _).mono ?_; rintro e w3 ⟨rfl, hb3⟩))
    go_ret
    exact ⟨rfl, bb.trans ((hd2.below.trans (hb3.mono hd2.below.size)).mono bb.size)⟩
end Go.Proofs.Ytogchfpecbmocaa
