/-
  The walk of package session's makeRoom.
-/
import Derived.Test.YtgphijkonmdehaaDel
import Derived.BigQuiet
import Derived.Deep.QuietTactic
namespace Go.Proofs.Ytgphijkonmdehaa
open Go.RowKit
set_option maxRecDepth 10000

set_option maxHeartbeats 400000 in
theorem room_few (p : Nat) (v : Value) (T : List Ss) (w : World) (h : HasT w 54 p v T) (hlt : T.length < 3) : Calls Try.prog 35 #[.pointer (some ⟨p, 0, none⟩)] w (VE w (.int .i64 0)) := by
  obtain ⟨A, cc, e, hnc, -⟩ := h.shape
  have hc0 := h.c0
  rw [e] at hc0
  have hi : (T.length : Int) < 3 := by omega
  generalize T.length = n at *
  clear h e
  go_enter Try.func35, Try.ntmps35
  go_wp2_with fail
  go_ret
  exact ⟨rfl, Below.refl _ _⟩
theorem lst_lt {T : List Ss} (h : T.length = 3) (k : Nat) (hk : k ≤ 3) : lstK T k < T.length := by
  rcases Nat.eq_zero_or_pos k with h0 | h0
  · subst h0; simp [lstK, h]
  · have := lstK_lt T k h0; omega
set_option maxHeartbeats 1000000 in
theorem room_full (p : Nat) (v : Value) (T : List Ss) (w : World) (h : HasT w 54 p v T) (h3 : T.length = 3) : Calls Try.prog 35 #[.pointer (some ⟨p, 0, none⟩)] w fun e w' => e = .returned (.int .i64 (at_ T (lst T)).c) ∧ Gw 54 p w (fpT p v) (T.eraseIdx (lst T)) w' := by
  obtain ⟨g, cap, ev, hcap, hg⟩ := own_some h.own (by omega : 0 < T.length)
  rw [h3] at ev hcap
  have HH := hid (fun W (hW : Below w.heap.size w W) => h.below hW)
  have hl := lst_lt h3 3 (Nat.le_refl _)
  have hL : lst T = lstK T 3 := by unfold lst; rw [h3]
  rw [hL, at_get hl]
  obtain ⟨l, hll⟩ : ∃ l, lstK T 3 = l := ⟨_, rfl⟩
  have HLL := hid hll
  rw [hll] at hl
  have HL3 : Hid (l < 3) := hid (by omega)
  have HD1 := fun W (hW : Below w.heap.size w W) => del_any g cap 3 l (l + 1) T W (by have := (h.below hW).own; rw [ev, h3] at this; exact this) h3.symm rfl (by omega) hcap
  have HEL : Hid ((T.eraseIdx l).length = 2) := hid (by rw [List.length_eraseIdx, if_pos hl, h3])
  have HWF : Hid (WF (T.eraseIdx l)) := hid ⟨by rw [HEL.out]; omega, fun x hx => h.wf.ok x (List.mem_of_mem_eraseIdx hx)⟩
  have HCC2 := hid (fun W (hW : Below w.heap.size w W) => show W.cell? ⟨g, l * 5, none⟩ = some (.int .i64 T[l].c) from (h.below hW).cell hg l 0 hl (by decide))
  have e1 : T[lstK T 3]'(lst_lt h3 3 (Nat.le_refl _)) = T[l] := by congr 1
  rw [e1, hll]
  generalize T[l].c = who at *
  generalize T.eraseIdx l = U at *
  have HD : Hid (∀ W, Below w.heap.size w W → Calls Try.prog 46 #[.slice (some ⟨g, 0, none⟩) 3 cap, .int .i64 (l : Int), .int .i64 ((l : Int) + 1)] W fun e w' => e = .returned (.slice (some ⟨g, 0, none⟩) 2 cap) ∧ w'.ownsRow 0 37 5 (.slice (some ⟨g, 0, none⟩) 2 cap) 2 (rows Ss.cells U) ∧ Fr W w' [g]) := hid HD1
  clear HD1 hL hll e1 hl
  have HC0 := hid (fun W (hW : Below w.heap.size w W) => show W.cell? ⟨p, 0, none⟩ = some (.slice (some ⟨g, 0, none⟩) 3 cap) from by rw [← ev]; exact (h.below hW).c0)
  have HF0 := hid (fun W (hW : Below w.heap.size w W) => (h.below hW).f 0)
  have HCO := hid (fun k (hk : k < T.length) W (hW : Below w.heap.size w W) => show W.cell? ⟨g, k * 5 + 3, none⟩ = some (.int .i64 T[k].o) from (h.below hW).cell hg k 3 hk (by decide))
  have HRG := hid (fun k (hk : k < T.length) W (hW : Below w.heap.size w W) => (h.below hW).range hg k hk)
  have HZ := hid ssSize
  have HLT := hid (fun k (hk : k ≤ 3) => lst_lt h3 k hk)
  have H3 := hid h3
  have HEV := hid ev
  have HG := hid hg
  have HCAP := hid hcap
  have hc0 := HC0.out w (Below.refl _ _)
  clear h h3 ev hg
  go_enter Try.func35, Try.ntmps35
  go_wp2_with fail
  clear hc0
  go_loopw [3, 18] (fun lv iv wr => ∃ k : Nat, k ≤ 3 ∧ iv = .int .i64 (k : Int) ∧ lv = .int .i64 (lstK T k : Int) ∧ Below w.heap.size w wr) (fun _ iv _ => 3 - (intOf iv).toNat)
  case atStart => exact ⟨0, by omega, rfl, rfl, Below.refl _ _⟩
  case round =>
    obtain ⟨k, hk, rfl, rfl, hbe⟩ := hrel
    have HBE := hid hbe
    have hl := HLT.out k hk
    by_cases hlt : k < 3
    · have hkl : k < T.length := by rw [H3.out]; exact hlt
      have HX3 : Hid ((Ss.cells T[k])[3]? = some (.int .i64 T[k].o)) := hid rfl
      have HC5 : Hid ((Ss.cells T[k]).length = 5) := hid (Ss.len _)
      have HC1 : Hid ((Ss.cells T[k]).all (·.oneCell') = true) := hid (Ss.one _)
      have HRK := hid (HRG.out k hkl wr hbe)
      have HLO := hid (fun W (hW : Below w.heap.size w W) => HCO.out (lstK T k) hl W hW)
      have HST : Hid (lstK T (k + 1) = if T[k].o < T[lstK T k].o then k else lstK T k) := hid (by rw [lstK, at_get hkl, at_get hl])
      generalize T[k].o = ok at *
      generalize T[lstK T k].o = ol at *
      generalize Ss.cells T[k] = X at *
      obtain ⟨l, hll⟩ : ∃ l, lstK T k = l := ⟨_, rfl⟩
      rw [hll] at hl HLO HST ⊢
      have hl3 : (l : Int) < 3 := by have := H3.out; omega
      have hl0 : (0 : Int) ≤ (l : Int) := by omega
      have hk0 : (0 : Int) ≤ (k : Int) := by omega
      have hk3 : (k : Int) < 3 := by omega
      clear hll hbe
      go_wp2_with (first
        | (refine wpList_load_mid rfl 37 (.tmp 21) rfl g (k * 5) rfl X _ HRK.out Try.underlying37 rfl (by rw [HC5.out]; exact HZ.out) ?_)
        | (refine wpl_store_st rfl (.tmp 5) (.tmp 22) rfl HZ.out wr.heap.size ss0.cells X rfl rfl (Row.new _ _ _) ?_ (hid rfl) (hid HC5.out) (hid HC1.out); intro w3 hr3 hg3; have hb3 := HBE.out.trans ((((Below.refl _ _).alloc (Nat.le_refl _) _).trans (below_grown hg3 (Nat.le_refl _) (by simp))).mono HBE.out.size); have hcs := hr3.at_ 3 _ HX3.out; have hcl := HLO.out _ hb3; have hcp := HC0.out _ hb3; have HB3 := hid hb3; clear hb3 hg3 hr3))
      by_cases hd : ok < ol
      · have hd' : decide (ok < ol) = true := decide_eq_true hd
        rw [if_pos hd] at HST
        clear hd
        go_quiet (fail)
        go_wp2_with fail
        exact ⟨⟨k + 1, by omega, by go_num, by rw [HST.out], below_drewN HB3.out _⟩, by simp [intOf]; omega⟩
      · have hd' : decide (ok < ol) = false := decide_eq_false hd
        rw [if_neg hd] at HST
        clear hd
        go_quiet (fail)
        go_wp2_with fail
        exact ⟨⟨k + 1, by omega, by go_num, by rw [HST.out], below_drewN HB3.out _⟩, by simp [intOf]; omega⟩
    · obtain rfl : k = 3 := by omega
      have hcp := HC0.out _ hbe
      have hcc := HCC2.out wr hbe
      have HD2 := HD
      rw [HLL.out]
      have hl3 : (l : Int) < 3 := by have := HL3.out; omega
      have hl0 : (0 : Int) ≤ (l : Int) := by omega
      clear hbe hl
      go_wp2_with (go_at_call 46; refine (HD2.out _ HBE.out).mono ?_; rintro e w4 ⟨rfl, ho4, hf4⟩; have HO4 := hid ho4; have HF4 := hid hf4; have hr4 := (hf4.row ((HH.out _ HBE.out).box) (by have := (HH.out _ HBE.out).n1; rw [HG.out] at this; simpa using (fun e : p = g => this (by rw [e])))); have hcp4 := hr4.at_ 0 _ rfl; have hfp4 := hr4.frozen 0; clear ho4 hf4 hr4)
      go_ret
      have h4 := HH.out _ HBE.out
      have hM := h4.put (v' := .slice (some ⟨g, 0, none⟩) 2 cap) (T' := U) (by rw [HG.out]; exact HF4.out) (by rw [HEL.out]; exact HO4.out) (fun b hb => by left; rw [HG.out]; exact hb) HWF.out
      refine ⟨rfl, fpT p (.slice (some ⟨g, 0, none⟩) 2 cap), ⟨_, rfl, hM.1⟩, ?_, ?_⟩
      · exact ((Fr.of_below HBE.out).mono (fq := fpT p v) (by simp)).trans hM.2.1 (by intro b hb _; exact hb)
      · intro b hb
        rcases hM.2.2 b hb with h | h
        · exact .inl h
        · have := HBE.out.size
          right; omega
theorem room_any (p : Nat) (fp : List Nat) (T : List Ss) (w : World) (h : Gk 54 p T fp w) : Calls Try.prog 35 #[.pointer (some ⟨p, 0, none⟩)] w fun e w' => e = .returned (.int .i64 (gone T)) ∧ Gw 54 p w fp (room T) w' := by
  have hG := h
  obtain ⟨v, rfl, h⟩ := h
  unfold gone room
  by_cases h3 : T.length < 3
  · rw [if_pos h3, if_pos h3]
    exact (room_few p v T w h h3).mono fun e w' hh => ⟨hh.1, (Gw.start hG).below hh.2⟩
  · rw [if_neg h3, if_neg h3]
    exact room_full p v T w h (by have := h.wf.le; omega)
end Go.Proofs.Ytgphijkonmdehaa
