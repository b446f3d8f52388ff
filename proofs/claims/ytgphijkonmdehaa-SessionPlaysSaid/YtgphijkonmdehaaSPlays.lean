/-
  The walk of SessionPlays.
-/
import Derived.Test.YtgphijkonmdehaaMeans
import Derived.Test.YtgphijkonmdehaaBack
namespace Go.Proofs.Ytgphijkonmdehaa
open Go.RowKit
set_option maxRecDepth 10000

theorem Tk.looks1 {w0 w : World} {p q : Nat} {T U : List Ss} (h : Tk w0 54 p T 29 q U w) (c : Int) : Calls Try.prog 12 #[.pointer (some ⟨p, 0, none⟩), .int .i64 c] w (LK w (Go.Proofs.Ytgphijkonmdehaa.look T c) (Go.Proofs.Ytgphijkonmdehaa.looks T c)) := looked_sk h.fst c
theorem Tk.looks2 {w0 w : World} {p q : Nat} {T U : List Ss} (h : Tk w0 54 p T 29 q U w) (c : Int) : Calls Try.prog 13 #[.pointer (some ⟨q, 0, none⟩), .int .i64 c] w (LK w (Go.Proofs.Ytgphijkonmdehaa.look U c) (Go.Proofs.Ytgphijkonmdehaa.looks U c)) := by
  obtain ⟨fp, h1, _⟩ := h.snd
  exact rlook_any q fp U c w h1
set_option maxHeartbeats 16000000 in
theorem splays_any (A : Option Addr) (XS : List Ab) (n c : Nat) (w : World) (hr : Rd w w.heap.size A (rows Ab.cells XS)) (hn : n = XS.length) (hbig : n ≤ 9223372036854775807) : Calls Try.prog 3 #[.slice A n c] w (VE w (.bool true)) := by
  have HR := hid hr
  have HN := hid hn
  have HST := hid (fun k (hk : k < XS.length) => playS_take XS k hk)
  have HD := hid (fun p (T : List Ss) (x : Ab) fp W (hk : Gk 54 p T fp W) => does_any p fp T x W hk)
  have HM := hid (fun p (T : List Ss) (x : Ab) fp W (hk : Gk 29 p T fp W) => means_any p fp T x W hk)
  have HX6 := hid (show (Try.prog.info? 34).map (·.size) = some 6 from by kernel_rfl)
  have HAW := hid awake_any
  have HZ := hid ssSize
  clear hr hn
  go_enter Try.func3, Try.ntmps3
  go_wp2_with (first
    | (go_at_call 8; refine (HAW.out _).mono ?_; rintro e w1 ⟨rfl, hx⟩; have HBB := hid hx; clear hx)
    | (go_at_call 9; refine (new_any _).mono ?_; rintro e w1 ⟨p, fp, rfl, hk, hf, hx⟩; have HSK := hid (Sk.mk' HBB.out hk hf hx); clear hk hf hx))
  have HTK : Hid (Tk w 54 p [] 29 w1.heap.size [] (w1.alloc (.cells #[.slice none 0 0] 29))) := hid (HSK.out.two ((Below.refl _ _).alloc (Nat.le_refl _) _) ⟨_, rfl, nil_has (Row.new w1 _ #[.slice none 0 0]) (by decide)⟩ (fun b hb => by
    simp [fpT, Value.ownBlock] at hb
    omega))
  obtain ⟨q, hq⟩ : ∃ q, q = w1.heap.size := ⟨_, rfl⟩
  have HQ := hid hq
  rw [← hq] at HTK ⊢
  clear hq HSK
  go_loopw [5] (fun iv wr => ∃ k : Nat, k ≤ n ∧ k ≤ 60 ∧ iv = .int .i64 (k : Int) ∧ Tk w 54 p (playS (XS.take k)) 29 q (playS (XS.take k)) wr) (fun iv _ => n - (intOf iv).toNat)
  case atStart => exact ⟨0, by omega, by omega, rfl, HTK.out⟩
  case round =>
    obtain ⟨k, hk, hk60, rfl, htk⟩ := hrel
    have HT := hid htk
    clear htk
    by_cases hgo : k < n ∧ k < 60
    · obtain ⟨hlt, hlt60⟩ := hgo
      have hkl : k < XS.length := by rw [← HN.out]; exact hlt
      have hrd := HR.out.below HT.out.frame (Nat.le_refl _)
      obtain ⟨ga, o, rfl⟩ := shape_of hrd Ab.len (by decide) (by omega)
      have HRG := hid (fun W (hW : Below w.heap.size w W) => (HR.out.below hW (Nat.le_refl _)).range Ab.len k hkl)
      have HDK := hid (fun fp W hk => HD.out p (playS (XS.take k)) XS[k] fp W hk)
      have HMK := hid (fun fp W hk => HM.out q (playS (XS.take k)) XS[k] fp W hk)
      obtain ⟨U, hU⟩ : ∃ U, playS (XS.take (k + 1)) = U := ⟨_, rfl⟩
      rw [← HST.out k hkl, hU] at HDK HMK
      have HUU := hid hU
      have HC6 : Hid ((Ab.cells XS[k]).length = 6) := hid (Ab.len _)
      have HX1 : Hid ((Ab.cells XS[k])[1]? = some (.int .i64 XS[k].c)) := hid rfl
      obtain ⟨dv, hdv⟩ : ∃ dv, doV (playS (XS.take k)) XS[k] = dv := ⟨_, rfl⟩
      obtain ⟨de, hde⟩ : ∃ de, doE (playS (XS.take k)) XS[k] = de := ⟨_, rfl⟩
      rw [hdv, hde] at HDK HMK
      have HDV : Hid ((dv != dv) = false) := hid (by simp)
      have HDE : Hid ((de != de) = false) := hid (by simp)
      have HLB : Hid ((Go.Proofs.Ytgphijkonmdehaa.looks U XS[k].c != Go.Proofs.Ytgphijkonmdehaa.looks U XS[k].c) = false) := hid (by simp)
      have hEQ := eqSs (Go.Proofs.Ytgphijkonmdehaa.look U XS[k].c)
      have HC5 : Hid ((Ss.cells (Go.Proofs.Ytgphijkonmdehaa.look U XS[k].c)).length = 5) := hid (Ss.len _)
      have HC1 : Hid ((Ss.cells (Go.Proofs.Ytgphijkonmdehaa.look U XS[k].c)).all (·.oneCell') = true) := hid (Ss.one _)
      have HL1 := hid (fun W (h : Tk w 54 p U 29 q U W) => Tk.looks1 h XS[k].c)
      have HL2 := hid (fun W (h : Tk w 54 p U 29 q U W) => Tk.looks2 h XS[k].c)
      unfold LK at HL1 HL2
      clear hdv hde hU
      generalize Ss.cells (Go.Proofs.Ytgphijkonmdehaa.look U XS[k].c) = X at *
      generalize Go.Proofs.Ytgphijkonmdehaa.looks U XS[k].c = lb at *
      generalize XS[k].c = xc at *
      generalize Ab.cells XS[k] = Z at *
      have HRG0 := hid (HRG.out wr HT.out.frame)
      have hi0 : (0 : Int) ≤ (k : Int) := by omega
      have hi1 : (k : Int) < (n : Int) := by omega
      have hi2 : (k : Int) < 60 := by omega
      clear hrd
      go_wp2_with (first
        | (refine wpList_load_mid rfl 34 (.tmp 33) rfl ga (o + k * 6) rfl Z _ HRG0.out Try.underlying34 rfl (by rw [HC6.out]; exact HX6.out) ?_)
        | (go_at_call 10; refine (HT.out.call1 (fun fp hk => HDK.out fp _ hk)).mono ?_; rintro e w4 ⟨rfl, hx⟩; have HT4 := hid hx; have HRG1 := hid (HRG.out w4 HT4.out.frame); clear hx)
        | (refine wpList_load_mid rfl 34 (.tmp 42) rfl ga (o + k * 6) rfl Z _ HRG1.out Try.underlying34 rfl (by rw [HC6.out]; exact HX6.out) ?_)
        | (go_at_call 11; refine (HT4.out.call2 (fun fp hk => HMK.out fp _ hk)).mono ?_; rintro e w5 ⟨rfl, hx⟩; have HT5 := hid hx; have hc5 := HRG.out w5 HT5.out.frame 1 _ HX1.out; clear hx)
        | (go_at_call 12; refine (HL1.out _ HT5.out).mono ?_; rintro e w6 ⟨rfl, hx⟩; have HT6 := hid (HT5.out.below hx); clear hx hc5)
        | (refine wpl_store_st rfl (.tmp 10) (.tmp 55) rfl HZ.out w6.heap.size ss0.cells X rfl rfl (Row.new _ _ _) ?_ (hid rfl) (hid HC5.out) (hid HC1.out); intro w7 hr7 hg7; have hb7 : Below w6.heap.size w6 w7 := ((Below.refl _ _).alloc (Nat.le_refl _) _).trans (below_grown hg7 (Nat.le_refl _) (by simp)); have HT7 := hid (HT6.out.below hb7); have HR7 := hid hr7; have hc7 := HRG.out w7 HT7.out.frame 1 _ HX1.out; clear hb7 hg7 hr7)
        | (go_at_call 13; refine (HL2.out _ HT7.out).mono ?_; rintro e w8 ⟨rfl, hx⟩; have HT8 := hid (HT7.out.below hx); have HR8 := hid (HR7.out.below hx HR7.out.lt); clear hx hc7)
        | (refine wpl_store_st rfl (.tmp 12) (.tmp 65) rfl HZ.out w8.heap.size ss0.cells X rfl rfl (Row.new _ _ _) ?_ (hid rfl) (hid HC5.out) (hid HC1.out); intro w9 hr9 hg9; have hb9 : Below w8.heap.size w8 w9 := ((Below.refl _ _).alloc (Nat.le_refl _) _).trans (below_grown hg9 (Nat.le_refl _) (by simp)); have HT9 := hid (HT8.out.below hb9); have HR9 := hid (HR8.out.below hb9 HR8.out.lt); have HS9 := hid hr9; clear hb9 hg9 hr9))
      obtain ⟨fp, hgp, -⟩ := HT9.out.fst
      obtain ⟨fq, ⟨vq, -, hgq⟩, -⟩ := HT9.out.snd
      obtain ⟨Aq, cq, evq, hcq, hrq⟩ := hgq.shape
      have hcell := fun W (hW : Kp w9 W) => (hgq.below hW).c0
      rw [evq] at hcell
      have h3 := hgq.wf.le
      obtain ⟨nu, hnu⟩ : ∃ nu, U.length = nu := ⟨_, rfl⟩
      rw [hnu] at hcell hcq h3
      have HCQ := hid hcell
      have HLI : Hid (∀ W, Kp w9 W → Calls Try.prog 15 #[.pointer (some ⟨p, 0, none⟩)] W fun e w' => ∃ A c, e = .returned (.slice A nu c) ∧ nu ≤ c ∧ Rd w' w'.heap.size A (rows Ss.cells U) ∧ Below W.heap.size W w') := hid fun W hW => (list_any p fp U W (hgp.below hW)).mono fun e w' hh => by
        obtain ⟨A1, c1, a, b, d, f, -⟩ := hh
        rw [hnu] at a b
        exact ⟨A1, c1, a, b, d, f⟩
      have HSA : Hid (∀ A1 c1 W, Rd W W.heap.size A1 (rows Ss.cells U) → nu ≤ c1 → Kp w9 W → Calls Try.prog 14 #[.slice A1 nu c1, .slice Aq nu cq] W (VE W (.bool true))) := hid fun A1 c1 W h1 h2 hW => same_any A1 Aq U nu c1 cq W.heap.size W h1 ((hrq.below hW (Nat.le_refl _)).more hW.size) hnu.symm h2 hcq (Nat.le_refl _) (by omega)
      have HPK : Hid (∀ W, Kp w9 W → Calls Try.prog 16 #[.pointer (some ⟨p, 0, none⟩)] W (SE W (pack U))) := hid fun W hW => pack_any p fp U W (hgp.below hW)
      have HPR : Hid (∀ W, Kp w9 W → Calls Try.prog 17 #[.pointer (some ⟨q, 0, none⟩)] W (SE W (pack U))) := hid fun W hW => rpack_has q vq U W (hgq.below hW)
      have HG1 : Hid (∀ W, Kp w9 W → W.rangeAt w6.heap.size 0 X) := hid fun W hW j u hu => by rw [Nat.zero_add]; exact (HR9.out.below hW HR9.out.lt).at_ j u hu
      have HG2 : Hid (∀ W, Kp w9 W → W.rangeAt w8.heap.size 0 X) := hid fun W hW j u hu => by rw [Nat.zero_add]; exact (HS9.out.below hW HS9.out.lt).at_ j u hu
      have hEG := egSs
      generalize pack U = bsP at *
      clear hgp hgq hcell hrq hnu evq hcq h3
      refine wp_region_held_drew (S := fun w' => Kp w9 w') (by kernel_rfl) (Kp.refl _).drew (fun hH => ?_)
      refine wpAnyH_take (i := 0) (v := .int .i64 dv) rfl (by kernel_rfl) (by kernel_rfl) (by kernel_rfl) (fun _ _ _ h => h) (Or.inl ⟨by kernel_rfl, fun w' hw' => by clear hw'; go_simp⟩) hH ?_
      simp only [Act.put]
      refine wpAnyH_take (i := 1) (v := .int .i64 dv) rfl (by kernel_rfl) (by kernel_rfl) (by kernel_rfl) (fun _ _ _ h => h) (Or.inl ⟨by kernel_rfl, fun w' hw' => by clear hw'; go_simp⟩) hH ?_
      simp only [Act.put]
      refine wpAnyH_take (i := 2) (v := .bool false) rfl (by kernel_rfl) (by kernel_rfl) (by kernel_rfl) (fun _ _ _ h => h) (Or.inl ⟨by kernel_rfl, fun w' hw' => by have h := HDV.out; go_simp⟩) hH ?_
      simp only [Act.put]
      refine wpAnyH_take (i := 3) (v := .bool false) rfl (by kernel_rfl) (by kernel_rfl) (by kernel_rfl) (fun _ _ _ h => h) (Or.inl ⟨by kernel_rfl, fun w' hw' => by clear hw'; go_simp⟩) hH ?_
      simp only [Act.put]
      refine wpAnyH_take (i := 4) (v := .int .i64 de) rfl (by kernel_rfl) (by kernel_rfl) (by kernel_rfl) (fun _ _ _ h => h) (Or.inl ⟨by kernel_rfl, fun w' hw' => by clear hw'; go_simp⟩) hH ?_
      simp only [Act.put]
      refine wpAnyH_take (i := 5) (v := .int .i64 de) rfl (by kernel_rfl) (by kernel_rfl) (by kernel_rfl) (fun _ _ _ h => h) (Or.inl ⟨by kernel_rfl, fun w' hw' => by clear hw'; go_simp⟩) hH ?_
      simp only [Act.put]
      refine wpAnyH_take (i := 6) (v := .bool false) rfl (by kernel_rfl) (by kernel_rfl) (by kernel_rfl) (fun _ _ _ h => h) (Or.inl ⟨by kernel_rfl, fun w' hw' => by have h := HDE.out; go_simp⟩) hH ?_
      simp only [Act.put]
      refine wpAnyH_take (i := 7) (v := .bool false) rfl (by kernel_rfl) (by kernel_rfl) (by kernel_rfl) (fun _ _ _ h => h) (Or.inl ⟨by kernel_rfl, fun w' hw' => by clear hw'; go_simp⟩) hH ?_
      simp only [Act.put]
      refine wpAnyH_take (i := 8) (v := .bool false) rfl (by kernel_rfl) (by kernel_rfl) (by kernel_rfl) (fun _ _ _ h => h) (Or.inl ⟨by kernel_rfl, fun w' hw' => by clear hw'; go_simp⟩) hH ?_
      simp only [Act.put]
      refine wpAnyH_take (i := 9) (v := .agg X.toArray) rfl (by kernel_rfl) (by kernel_rfl) (by kernel_rfl) (fun _ _ _ h => h) (yieldsIf_load_mid (by kernel_rfl) 37 (.tmp 10) rfl w6.heap.size 0 (by kernel_rfl) X _ (fun W hW => HG1.out W hW) Try.underlying37 rfl (by rw [HC5.out]; exact HZ.out)) hH ?_
      simp only [Act.put]
      refine wpAnyH_take (i := 10) (v := .agg X.toArray) rfl (by kernel_rfl) (by kernel_rfl) (by kernel_rfl) (fun _ _ _ h => h) (yieldsIf_load_mid (by kernel_rfl) 37 (.tmp 12) rfl w8.heap.size 0 (by kernel_rfl) X _ (fun W hW => HG2.out W hW) Try.underlying37 rfl (by rw [HC5.out]; exact HZ.out)) hH ?_
      simp only [Act.put]
      refine wpAnyH_ready (rs := [11]) (by kernel_rfl) (by simp) ?_
      refine AllReadyH.cons rfl (fun K hK => ?_) AllReadyH.nil
      rw [if_pos (by kernel_rfl)]
      go_simp
      refine hK.out _ _ (hH) (fun hH => ?_)
      clear hK K
      try simp only [Act.put]
      refine wpAnyH_take (i := 12) (v := .bool false) rfl (by kernel_rfl) (by kernel_rfl) (by kernel_rfl) (fun _ _ _ h => h) (Or.inl ⟨by kernel_rfl, fun w' hw' => by clear hw'; go_simp⟩) hH ?_
      simp only [Act.put]
      refine wpAnyH_take (i := 13) (v := .bool false) rfl (by kernel_rfl) (by kernel_rfl) (by kernel_rfl) (fun _ _ _ h => h) (Or.inl ⟨by kernel_rfl, fun w' hw' => by clear hw'; go_simp⟩) hH ?_
      simp only [Act.put]
      refine wpAnyH_take (i := 14) (v := .bool lb) rfl (by kernel_rfl) (by kernel_rfl) (by kernel_rfl) (fun _ _ _ h => h) (Or.inl ⟨by kernel_rfl, fun w' hw' => by clear hw'; go_simp⟩) hH ?_
      simp only [Act.put]
      refine wpAnyH_take (i := 15) (v := .bool lb) rfl (by kernel_rfl) (by kernel_rfl) (by kernel_rfl) (fun _ _ _ h => h) (Or.inl ⟨by kernel_rfl, fun w' hw' => by clear hw'; go_simp⟩) hH ?_
      simp only [Act.put]
      refine wpAnyH_take (i := 16) (v := .bool false) rfl (by kernel_rfl) (by kernel_rfl) (by kernel_rfl) (fun _ _ _ h => h) (Or.inl ⟨by kernel_rfl, fun w' hw' => by have h := HLB.out; go_simp⟩) hH ?_
      simp only [Act.put]
      refine wpAnyH_take (i := 17) (v := .bool false) rfl (by kernel_rfl) (by kernel_rfl) (by kernel_rfl) (fun _ _ _ h => h) (Or.inl ⟨by kernel_rfl, fun w' hw' => by clear hw'; go_simp⟩) hH ?_
      simp only [Act.put]
      refine wpAnyH_take (i := 18) (v := .bool false) rfl (by kernel_rfl) (by kernel_rfl) (by kernel_rfl) (fun _ _ _ h => h) (Or.inl ⟨by kernel_rfl, fun w' hw' => by clear hw'; go_simp⟩) hH ?_
      simp only [Act.put]
      refine wpAnyH_take (i := 19) (v := .pointer (some ⟨p, 0, none⟩)) rfl (by kernel_rfl) (by kernel_rfl) (by kernel_rfl) (fun _ _ _ h => h) (Or.inl ⟨by kernel_rfl, fun w' hw' => by clear hw'; go_simp⟩) hH ?_
      simp only [Act.put]
      refine wpAnyH_take (i := 21) (v := .pointer (some ⟨q, 0, none⟩)) rfl (by kernel_rfl) (by kernel_rfl) (by kernel_rfl) (fun _ _ _ h => h) (Or.inl ⟨by kernel_rfl, fun w' hw' => by clear hw'; go_simp⟩) hH ?_
      simp only [Act.put]
      refine wpAnyH_take (i := 22) (v := .pointer (some ⟨q, 0, none⟩)) rfl (by kernel_rfl) (by kernel_rfl) (by kernel_rfl) (fun _ _ _ h => h) (Or.inl ⟨by kernel_rfl, fun w' hw' => by clear hw'; go_simp⟩) hH ?_
      simp only [Act.put]
      refine wpAnyH_take (i := 23) (v := .pointer (some ⟨q, 0, none⟩)) rfl (by kernel_rfl) (by kernel_rfl) (by kernel_rfl) (fun _ _ _ h => h) (Or.inl ⟨by kernel_rfl, fun w' hw' => by clear hw'; go_simp⟩) hH ?_
      simp only [Act.put]
      refine wpAnyH_take (i := 24) (v := .slice Aq nu cq) rfl (by kernel_rfl) (by kernel_rfl) (by kernel_rfl) (fun _ _ _ h => h) (Or.inl ⟨by kernel_rfl, fun w' hw' => by have h := HCQ.out w' hw'; go_simp⟩) hH ?_
      simp only [Act.put]
      refine wpAnyH_ready (rs := [20]) (by kernel_rfl) (by simp) ?_
      refine AllReadyH.cons rfl (fun K hK => ?_) AllReadyH.nil
      rw [if_pos (by kernel_rfl)]
      go_simp
      go_at_call 15
      refine (HLI.out _ hH).mono ?_
      rintro e u1 ⟨A1, c1, rfl, hc1x, hrd1, hbu1⟩
      have HR1 := hid hrd1
      have HCC1 := hid hc1x
      clear hrd1 hc1x
      go_wp2_with fail
      refine hK.out _ _ (Kp.call hbu1 hH) (fun hH => ?_)
      clear hK K
      try simp only [Act.put]
      refine wpAnyH_ready (rs := [25]) (by kernel_rfl) (by simp) ?_
      refine AllReadyH.cons rfl (fun K hK => ?_) AllReadyH.nil
      rw [if_pos (by kernel_rfl)]
      go_simp
      go_at_call 14
      refine (HSA.out _ _ _ HR1.out HCC1.out hH).mono ?_
      rintro e u2 ⟨rfl, hbu2⟩
      go_wp2_with fail
      refine hK.out _ _ (Kp.call hbu2 hH) (fun hH => ?_)
      clear hK K
      try simp only [Act.put]
      refine wpAnyH_take (i := 26) (v := .bool false) rfl (by kernel_rfl) (by kernel_rfl) (by kernel_rfl) (fun _ _ _ h => h) (Or.inl ⟨by kernel_rfl, fun w' hw' => by clear hw'; go_simp⟩) hH ?_
      simp only [Act.put]
      refine wpAnyH_take (i := 27) (v := .bool false) rfl (by kernel_rfl) (by kernel_rfl) (by kernel_rfl) (fun _ _ _ h => h) (Or.inl ⟨by kernel_rfl, fun w' hw' => by clear hw'; go_simp⟩) hH ?_
      simp only [Act.put]
      refine wpAnyH_take (i := 28) (v := .bool false) rfl (by kernel_rfl) (by kernel_rfl) (by kernel_rfl) (fun _ _ _ h => h) (Or.inl ⟨by kernel_rfl, fun w' hw' => by clear hw'; go_simp⟩) hH ?_
      simp only [Act.put]
      refine wpAnyH_take (i := 29) (v := .pointer (some ⟨p, 0, none⟩)) rfl (by kernel_rfl) (by kernel_rfl) (by kernel_rfl) (fun _ _ _ h => h) (Or.inl ⟨by kernel_rfl, fun w' hw' => by clear hw'; go_simp⟩) hH ?_
      simp only [Act.put]
      refine wpAnyH_take (i := 31) (v := .pointer (some ⟨q, 0, none⟩)) rfl (by kernel_rfl) (by kernel_rfl) (by kernel_rfl) (fun _ _ _ h => h) (Or.inl ⟨by kernel_rfl, fun w' hw' => by clear hw'; go_simp⟩) hH ?_
      simp only [Act.put]
      refine wpAnyH_ready (rs := [30]) (by kernel_rfl) (by simp) ?_
      refine AllReadyH.cons rfl (fun K hK => ?_) AllReadyH.nil
      rw [if_pos (by kernel_rfl)]
      go_simp
      go_at_call 16
      refine (HPK.out _ hH).mono ?_
      rintro e u3 ⟨rfl, hbu3⟩
      go_wp2_with fail
      refine hK.out _ _ (Kp.call hbu3 hH) (fun hH => ?_)
      clear hK K
      try simp only [Act.put]
      refine wpAnyH_ready (rs := [32]) (by kernel_rfl) (by simp) ?_
      refine AllReadyH.cons rfl (fun K hK => ?_) AllReadyH.nil
      rw [if_pos (by kernel_rfl)]
      go_simp
      go_at_call 17
      refine (HPR.out _ hH).mono ?_
      rintro e u4 ⟨rfl, hbu4⟩
      go_wp2_with fail
      refine hK.out _ _ (Kp.call hbu4 hH) (fun hH => ?_)
      clear hK K
      try simp only [Act.put]
      refine wpAnyH_ready (rs := [33]) (by kernel_rfl) (by simp) ?_
      refine AllReadyH.cons rfl (fun K hK => ?_) AllReadyH.nil
      rw [if_pos (by kernel_rfl)]
      go_simp
      refine hK.out _ _ (hH) (fun hH => ?_)
      clear hK K
      try simp only [Act.put]
      refine wpAnyH_ready (rs := [34]) (by kernel_rfl) (by simp) ?_
      refine AllReadyH.cons rfl (fun K hK => ?_) AllReadyH.nil
      go_simp
      refine hK.out _ _ (hH) (fun hH => ?_)
      clear hK K
      try simp only [Act.put]
      refine wpAnyH_done (by kernel_rfl) ?_ _
      try simp only [Act.put]
      go_wp2_with fail
      exact ⟨⟨k + 1, by omega, by omega, by go_num, by rw [HUU.out]; exact HT9.out.below hH⟩, by simp [intOf]; omega⟩
    · have hcond : (¬ (k : Int) < (n : Int)) ∨ ((k : Int) < (n : Int) ∧ ¬ (k : Int) < 60) := by omega
      rcases hcond with q1 | ⟨q1, q2⟩
      · go_wp2_with fail
        go_ret
        exact ⟨rfl, HT.out.frame⟩
      · go_wp2_with fail
        go_ret
        exact ⟨rfl, HT.out.frame⟩
end Go.Proofs.Ytgphijkonmdehaa
