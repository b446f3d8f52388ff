/-
  The walk of ChooseKeeps.
-/
import Derived.Test.YteahbalcielhpaaGreatDoorZ28
import Derived.Test.YteahbalcielhpaaGreatDoorZ27
namespace Go.Proofs.YteahbalcielhpaaGreatDoor
open Go.RowKit
set_option maxRecDepth 10000

theorem ch_fits {M : List LP} : ∀ {m : Mk} {es : List En}, ChQ M m es → ∀ e ∈ es, e.fits
  | _, [], _, _, h => by cases h
  | _, _ :: _, hq, e, h => by
    rcases List.mem_cons.1 h with rfl | h
    · exact hq.2.2.1
    · exact ch_fits hq.2.2.2 e h
/-- a round of the law's loop -/
theorem keeps_step {l : List Ms} {v : Int} {d : Nat} {m : Mk} {es : List En} {k : Nat} {e : En} (h : keepsC l v (d + 1) m (es.drop k) = true) (he : firstC l (m.opn + 1) v = e) (hs : sureC l (m.opn + 1) v) (hf : Fol m e) :
    ∃ hk : k < es.length, (es[k] ≠ e → stubS es[k] = stubS e) ∧ (es[k] = e → keepsC l v d (markE e) (es.drop (k + 1)) = true) := by
  unfold keepsC at h
  rw [he, if_neg (by rintro (a | a); exact a hs; exact a hf)] at h
  by_cases hk : k < es.length
  · refine ⟨hk, ?_⟩
    rw [← List.getElem_cons_drop hk] at h
    simp only at h
    by_cases hc : es[k] = e
    · rw [if_neg (fun a => a.1 hc), if_neg (fun a => a hc)] at h
      exact ⟨fun a => absurd hc a, fun _ => h⟩
    · refine ⟨fun _ => ?_, fun a => absurd a hc⟩
      by_cases hst : stubS es[k] = stubS e
      · exact hst
      · rw [if_pos ⟨hc, hst⟩] at h
        cases h
  · rw [List.drop_of_length_le (by omega)] at h
    cases h
theorem choose_keep (count v : Int) (l : List Ms) : (chooseC count l).ready = false ∨
    (keepsC (logsC count l) v 8 (chooseC count l).check (chooseC count l).es = true ∧ (0 ≤ (chooseC count l).check.opn ∧ (chooseC count l).check.opn ≤ 72057594037927935)) := by
  rcases choose_cases count l with e | ⟨hc, hd, es, hg, e⟩
  · exact .inl (by rw [e]; rfl)
  · right
    have hne : logsC count l ≠ [] := by
      intro e0
      rw [e0] at hd
      rcases hc with rfl | rfl <;> exact absurd hd (by decide)
    have hb := (logsC_log _ (far_mem hne)).2.2.1 (farC (logsC count l)).check.opn (by simp [numsM])
    rw [e]
    exact ⟨go_keeps (fun m hm => (logs_ok hm).2) _ v 8 _ es hb.1 hg, hb⟩
set_option maxHeartbeats 8000000 in
theorem keeps_law (count : Int) (A : Option Addr) (L : List LP) (n c : Nat) (v : Int) (w : World) (hr : Lm w w.heap.size A L) (hf : ∀ x ∈ L, x.1.fits) (hn : n = L.length) (hc : n ≤ c) (hb : n ≤ 9223372036854775807) (hfd : Fd w) (hmd : Md w) :
    Calls Tryz.prog 4 #[.int .i64 count, .slice A n c, .int .i64 v] w (Yes w) := by
  have HA := hid (awake18_any w hfd hmd)
  have HGR := hid (fun (W : World) (hW : Below w.heap.size w W) => great_any A L n c w.heap.size W (hr.below hW (Nat.le_refl _)) hn hc hb)
  have HCH := hid (fun (hn12 : n ≤ 12) (W : World) (hW : Below w.heap.size w W) => choose_any count A L n c w.heap.size W (hr.below hW (Nat.le_refl _)) hf hn hc hW.size (by omega) (hfd.below hW hfd.1) (hmd.below hW hmd.1))
  have HLO := hid (fun (hn12 : n ≤ 12) (W : World) (hW : Below w.heap.size w W) => rlogs_any count A L n c w.heap.size W (hr.below hW (Nat.le_refl _)) hf hn hc hW.size (by omega))
  have HLF := hid (logsQ_fits (count := count) hf)
  have HLL := hid (logsQ_len count L)
  have HMK := hid (fun (e : En) (he : e.fits) (W : World) (hW : Below w.heap.size w W) => emark_any e he W (hfd.below hW hfd.1))
  have HSB := hid (fun (e : En) (he : e.fits) (W : World) (hW : Below w.heap.size w W) => sstub_any e he W (hfd.below hW hfd.1))
  have HFO := hid (fun (m : Mk) (e : En) (W : World) => efol_any m e W)
  have HFD := hid (fun (W : World) (hW : Below w.heap.size w W) => hfd.below hW hfd.1)
  have hcf := choose_facts count (L.map Prod.fst)
  have hck := choose_keep count v (L.map Prod.fst)
  rw [← logsQ_eq] at hcf hck
  have HZS := hid mssize
  have HZC := hid chsize
  have HZK := hid msize
  have HZE := hid esize
  have HZI := hid isize
  clear hr hf hn hfd hmd
  by_cases h12 : n ≤ 12
  case neg =>
    clear HCH HLO hcf hck
    go_enter Tryz.func4, Tryz.ntmps4
    go_wp2_with (first
          | (go_at_call 6; refine (HA.out).mono ?_; rintro x w1 ⟨rfl, hb⟩; have HB1 := hid hb; clear hb)
          | (go_at_call 7; refine (HGR.out _ HB1.out).mono ?_; rintro x w2 ⟨b, rfl, hb12, rfl⟩))
    · go_ret
      exact ⟨rfl, HB1.out⟩
    · exact absurd (hb12 (by assumption)) h12
  have HCX := hid (HCH.out h12)
  have HLX := hid (HLO.out h12)
  clear HCH HLO
  obtain ⟨X, hX⟩ : ∃ X, chooseC count (L.map Prod.fst) = X := ⟨_, rfl⟩
  rw [hX] at hcf hck HCX
  clear hX
  generalize logsQ count L = M at *
  rcases hcf with ⟨-, rfl⟩ | ⟨hrd, hl8, hch, hcm⟩
  · clear HLX HFO HMK HLF HLL HSB hck
    go_enter Tryz.func4, Tryz.ntmps4
    go_wp2_with (first
          | (go_at_call 6; refine (HA.out).mono ?_; rintro x w1 ⟨rfl, hb⟩; have HB1 := hid hb; clear hb)
          | (go_at_call 7; refine (HGR.out _ HB1.out).mono ?_; rintro x w2 ⟨b, rfl, hb12, rfl⟩)
          | (go_at_call 8; refine (HCX.out _ HB1.out).mono ?_; rintro x w3 ⟨A2, c2, rfl, hc2, hb3, -⟩; have HB3 := hid (HB1.out.trans (hb3.mono HB1.out.size)); clear hb3)
          | ((with_reducible show wpList _ _ _ ({ dst := none, op := .store _ (.tmp 7) (.tmp 19), type := _, pos := _, after := _, guard := _ } :: _) _ _); refine wpl_store_st rfl (.tmp 7) (.tmp 19) rfl HZC.out (w3.heap.size) (#[.bool false, .int .i64 0, .int .i64 0, .int .u64 0, .int .i64 0, .slice none 0 0]) (chC ch0 A2 c2) rfl rfl (Row.new _ _ _) ?_ (hid (by first | rfl | simp)) (hid (by first | rfl | simp)) (hid (chC_one _ _ _)); intro w4 hr4 hg4; have HB4 := hid ((HB3.out.alloc HB3.out.size (.cells #[.bool false, .int .i64 0, .int .i64 0, .int .u64 0, .int .i64 0, .slice none 0 0] 30)).trans (below_grown hg4 HB3.out.size (by simp; have := HB3.out.size; omega))); have x0 : w4.cell? ⟨w3.heap.size, 0, none⟩ = some (.bool false) := hr4.cell 0; clear hr4 hg4))
    · go_ret
      exact ⟨rfl, HB1.out⟩
    · go_ret
      exact ⟨rfl, HB4.out⟩
  have HCHQ := chain_Q HLF.out X.check X.es hch
  have HFE := hid (ch_fits HCHQ)
  obtain ⟨hkp, hbd⟩ : keepsC (M.map Prod.fst) v 8 X.check X.es = true ∧ (0 ≤ X.check.opn ∧ X.check.opn ≤ 72057594037927935) := by
    rcases hck with h | h
    · rw [h] at hrd; cases hrd
    · exact h
  have HKP := hid hkp
  have HBD := hid hbd
  clear HCHQ hkp hbd hck hcm
  obtain ⟨r, m0, cm, es⟩ := X
  simp only at hrd hl8 HFE HKP HBD
  subst hrd
  obtain ⟨u, hu⟩ : ∃ u, u = es.length := ⟨_, rfl⟩
  have HU := hid hu
  have hu8' : (u : Int) ≤ 8 := by omega
  obtain ⟨mm, hmm⟩ : ∃ m, m = M.length := ⟨_, rfl⟩
  have HMM := hid hmm
  clear hu hmm hch hl8
  have HCX2 : Hid (∀ W, Below w.heap.size w W → Calls Tryz.prog 8 #[.int .i64 count, .slice A n c] W fun e w' => ∃ A2 c2, e = .returned (.agg (chC ⟨true, m0, cm, es⟩ A2 c2)) ∧ u ≤ c2 ∧ Below W.heap.size W w' ∧ Rd w' w'.heap.size A2 (rws enC es)) := hid fun W hW => (HCX.out W hW).mono fun e w' ⟨A2, c2, h1, h2, h3, h4⟩ => by
    obtain ⟨A3, c3, e3, -, h5⟩ := own_rdM h4
    cases e3
    exact ⟨A2, c2, h1, by rw [HU.out]; exact h2, h3, h5⟩
  have HLX2 : Hid (∀ W, Below w.heap.size w W → Calls Tryz.prog 9 #[.int .i64 count, .slice A n c] W fun e w' => ∃ A c, e = .returned (.slice A mm c) ∧ mm ≤ c ∧ Below W.heap.size W w' ∧ Lm w' w'.heap.size A M) := hid fun W hW => by
    have h := HLX.out W hW
    rw [HMM.out]
    exact h
  clear HCX HLX
  go_enter Tryz.func4, Tryz.ntmps4
  go_wp2_with (first
      | (go_at_call 6; refine (HA.out).mono ?_; rintro x w1 ⟨rfl, hb⟩; have HB1 := hid hb; clear hb)
      | (go_at_call 7; refine (HGR.out _ HB1.out).mono ?_; rintro x w2 ⟨b, rfl, hb12, rfl⟩)
      | (go_at_call 8; refine (HCX2.out _ HB1.out).mono ?_; rintro x w3 ⟨A2, c2, rfl, hc2, hb3, hrd3⟩; have HB3 := hid (HB1.out.trans (hb3.mono HB1.out.size)); have HRD3 := hid hrd3; clear hb3 hrd3)
      | ((with_reducible show wpList _ _ _ ({ dst := none, op := .store _ (.tmp 7) (.tmp 19), type := _, pos := _, after := _, guard := _ } :: _) _ _); refine wpl_store_st rfl (.tmp 7) (.tmp 19) rfl HZC.out (w3.heap.size) (#[.bool false, .int .i64 0, .int .i64 0, .int .u64 0, .int .i64 0, .slice none 0 0]) (chC ⟨true, m0, cm, es⟩ A2 c2) rfl rfl (Row.new _ _ _) ?_ (hid (by first | rfl | simp)) (hid (by first | rfl | simp)) (hid (chC_one _ _ _)); intro w4 hr4 hg4; have R4 := hid hr4; have hb4 : Below w3.heap.size w3 w4 := ((Below.refl _ _).alloc (Nat.le_refl _) (.cells #[.bool false, .int .i64 0, .int .i64 0, .int .u64 0, .int .i64 0, .slice none 0 0] 30)).trans (below_grown hg4 (Nat.le_refl _) (by simp)); have HB4 := hid (HB3.out.trans (hb4.mono HB3.out.size)); have HRD4 := hid (HRD3.out.below hb4 (Nat.le_refl _)); have x0 : w4.cell? ⟨w3.heap.size, 0, none⟩ = some (.bool true) := hr4.cell 0; clear hr4 hg4 hb4)
      | (go_at_call 9; refine (HLX2.out _ HB4.out).mono ?_; rintro x w5 ⟨A3, c3, rfl, hc3, hb5, hlm⟩; have HB5 := hid (HB4.out.trans (hb5.mono HB4.out.size)); have R5 := hid (R4.out.below hb5 R4.out.lt); have HRD5 := hid (HRD4.out.below hb5 (Nat.le_of_lt R4.out.lt)); have HLM := hid hlm; clear hb5 hlm)
      | ((with_reducible show wpList _ _ _ ({ dst := some 27, op := _, type := _, pos := _, after := _, guard := _ } :: _) _ _); refine wpList_load_mid rfl 27 (.tmp 26) rfl w3.heap.size (1) rfl (m0.cells.toList) _ (ch_check ⟨true, m0, cm, es⟩ A2 c2 R5.out) Tryz.underlying27 rfl (by exact HZK.out) ?_)
      | ((with_reducible show wpList _ _ _ ({ dst := none, op := .store _ (.tmp 9) (.tmp 27), type := _, pos := _, after := _, guard := _ } :: _) _ _); refine wpl_store_st rfl (.tmp 9) (.tmp 27) rfl HZK.out (w5.heap.size) (#[.int .i64 0, .int .i64 0, .int .u64 0]) (m0.cells) rfl rfl (Row.new _ _ _) ?_ (hid (by first | rfl | simp)) (hid (by first | rfl | simp)) (hid (mcells_one _)); intro w6 hr6 hg6; have RK := hid hr6; have hb6 : Below w5.heap.size w5 w6 := ((Below.refl _ _).alloc (Nat.le_refl _) (.cells #[.int .i64 0, .int .i64 0, .int .u64 0] 27)).trans (below_grown hg6 (Nat.le_refl _) (by simp)); have HB6 := hid (HB5.out.trans (hb6.mono HB5.out.size)); have HW6 := hid hb6; have x5 := hr6.lt; clear hr6 hg6 hb6))
  · go_ret
    exact ⟨rfl, HB1.out⟩
  have hbf : b = false := by assumption
  subst hbf
  have HV5 : Hid (w3.heap.size < w5.heap.size) := hid R5.out.lt
  have HSU := hid (fun (nn : Int) (W : World) (hW : Below w5.heap.size w5 W) => sure_any nn v A3 M mm c3 w5.heap.size W (HLM.out.below hW (Nat.le_refl _)) HLF.out HMM.out hc3 hW.size (by have := HLL.out; have := HMM.out; omega) (HFD.out _ (HB5.out.trans (hW.mono HB5.out.size))))
  clear R4 HRD3 HRD4 HCX2 HLX2 HA HGR hb12
  go_loopw [10] (fun i wr => ∃ k : Nat, k ≤ 8 ∧ i = .int .i64 (k : Int) ∧ ∃ m : Mk, Hid (keepsC (M.map Prod.fst) v (8 - k) m (es.drop k) = true) ∧ Hid (0 ≤ m.opn ∧ m.opn ≤ 72057594037927935) ∧ Hid (Row wr w5.heap.size 27 m.cells.toList) ∧ Hid (Below w5.heap.size w5 wr)) (fun i _ => 8 - (intOf i).toNat)
  case atStart => exact ⟨0, by omega, rfl, m0, HKP, HBD, RK, HW6⟩
  case round =>
    clear HKP HBD RK HW6 HB6 x0 x5
    obtain ⟨k, hk, rfl, m, HQ, HMB, RK, HW⟩ := hrel
    have HBX := hid (HB5.out.trans (HW.out.mono HB5.out.size))
    by_cases hlt : k < 8
    · have hi1 : (k : Int) < 8 := by omega
      have hi0 : (0 : Int) ≤ (k : Int) := by omega
      have hmb := HMB.out
      have hop1 : 0 ≤ m.opn := hmb.1
      have hop2 : m.opn ≤ 72057594037927935 := hmb.2
      have c0 : wr.cell? ⟨w5.heap.size, 0, none⟩ = some (.int .i64 m.opn) := RK.out.cell 0
      obtain ⟨d, hd⟩ : ∃ d, 8 - k = d + 1 := ⟨7 - k, by omega⟩
      have HD : Hid (d = 8 - (k + 1)) := hid (by omega)
      rw [hd] at HQ
      have HS := hid (HSU.out (m.opn + 1))
      have hfe := fstQ_eq M (m.opn + 1) v
      have hef := fstQ_fits HLF.out (m.opn + 1) v
      generalize fstQ M (m.opn + 1) v = e at *
      have HEF := hid hef
      have HFOX := hid (HFO.out m e)
      have HSZ : Hid (e.cells.size = 9) := hid rfl
      clear hmb hd
      by_cases hsu : sureC (M.map Prod.fst) (m.opn + 1) v
      case neg =>
        rw [decide_eq_false hsu] at HS
        clear hfe hef hsu
        go_wp2_with (first
          | (go_at_call 13; refine (HS.out _ HW.out).mono ?_; rintro x w11 ⟨rfl, hb⟩; have HW1 := hid (HW.out.trans (hb.mono HW.out.size)); have RK1 := hid (RK.out.below hb RK.out.lt); have HLT := hid (show w5.heap.size < w11.heap.size from RK1.out.lt); clear hb)
          | ((with_reducible show wpList _ _ _ ({ dst := none, op := .store _ (.tmp 11) (.tmp 39), type := _, pos := _, after := _, guard := _ } :: _) _ _); refine wpl_store_st rfl (.tmp 11) (.tmp 39) rfl HZE.out (w11.heap.size) (#[.int .i64 0, .int .i64 0, .int .i64 0, .int .u64 0, .int .i64 0, .int .i64 0, .int .i64 0, .int .i64 0, .string ⟨#[]⟩]) (e.cells) rfl rfl (Row.new _ _ _) ?_ (hid (by first | rfl | simp)) (hid (by first | rfl | simp)) (hid (ecells_one _)); intro w12 hr12 hg; have RE := hid hr12; have hb : Below w11.heap.size w11 w12 := ((Below.refl _ _).alloc (Nat.le_refl _) (.cells #[.int .i64 0, .int .i64 0, .int .i64 0, .int .u64 0, .int .i64 0, .int .i64 0, .int .i64 0, .int .i64 0, .string ⟨#[]⟩] 35)).trans (below_grown hg (Nat.le_refl _) (by simp)); have HW3 := hid (HW1.out.trans (hb.mono HW1.out.size)); have RK3 := hid (RK1.out.below hb RK1.out.lt); clear hr12 hg hb))
        go_ret
        exact ⟨rfl, HB5.out.trans (HW3.out.mono HB5.out.size)⟩
      rw [decide_eq_true hsu] at HS
      by_cases hfo : Fol m e
      case neg =>
        rw [decide_eq_false hfo] at HFOX
        clear hfe hef hsu hfo
        go_wp2_with (first
          | (go_at_call 13; refine (HS.out _ HW.out).mono ?_; rintro x w11 ⟨rfl, hb⟩; have HW1 := hid (HW.out.trans (hb.mono HW.out.size)); have RK1 := hid (RK.out.below hb RK.out.lt); have HLT := hid (show w5.heap.size < w11.heap.size from RK1.out.lt); clear hb)
          | ((with_reducible show wpList _ _ _ ({ dst := none, op := .store _ (.tmp 11) (.tmp 39), type := _, pos := _, after := _, guard := _ } :: _) _ _); refine wpl_store_st rfl (.tmp 11) (.tmp 39) rfl HZE.out (w11.heap.size) (#[.int .i64 0, .int .i64 0, .int .i64 0, .int .u64 0, .int .i64 0, .int .i64 0, .int .i64 0, .int .i64 0, .string ⟨#[]⟩]) (e.cells) rfl rfl (Row.new _ _ _) ?_ (hid (by first | rfl | simp)) (hid (by first | rfl | simp)) (hid (ecells_one _)); intro w12 hr12 hg; have RE := hid hr12; have hb : Below w11.heap.size w11 w12 := ((Below.refl _ _).alloc (Nat.le_refl _) (.cells #[.int .i64 0, .int .i64 0, .int .i64 0, .int .u64 0, .int .i64 0, .int .i64 0, .int .i64 0, .int .i64 0, .string ⟨#[]⟩] 35)).trans (below_grown hg (Nat.le_refl _) (by simp)); have HW3 := hid (HW1.out.trans (hb.mono HW1.out.size)); have RK3 := hid (RK1.out.below hb RK1.out.lt); clear hr12 hg hb)
          | ((with_reducible show wpList _ _ _ ({ dst := some 44, op := _, type := _, pos := _, after := _, guard := _ } :: _) _ _); refine wpl_load_want rfl 27 (.tmp 9) rfl (w5.heap.size) rfl 27 (m.cells) (0, 0) _ (Row.arr RK3.out) Tryz.underlying27 rfl HZK.out ?_)
          | ((with_reducible show wpList _ _ _ ({ dst := some 45, op := _, type := _, pos := _, after := _, guard := _ } :: _) _ _); refine wpl_load_want rfl 35 (.tmp 11) rfl (w11.heap.size) rfl 35 (e.cells) (0, 0) _ (Row.arr RE.out) Tryz.underlying35 rfl (by rw [HSZ.out]; exact HZE.out) ?_)
          | (go_at_call 10; refine (HFOX.out _).mono ?_; rintro x w14 ⟨rfl, hb⟩; have HW4 := hid (HW3.out.trans (hb.mono HW3.out.size)); have RK4 := hid (RK3.out.below hb RK3.out.lt); have RE4 := hid (RE.out.below hb RE.out.lt); clear hb))
        go_ret
        exact ⟨rfl, HB5.out.trans (HW4.out.mono HB5.out.size)⟩
      obtain ⟨hkl, q1, q2⟩ := keeps_step HQ.out hfe.symm hsu hfo
      rw [decide_eq_true hfo] at HFOX
      obtain ⟨gE, oE, rfl, hgE, -⟩ := rws_at (n := 9) (fun _ => rfl) HRD5.out k hkl (by omega)
      have HRG : Hid (∀ W, Below w5.heap.size w5 W → W.rangeAt gE (oE + k * 9) (Array.toList es[k].cells)) := hid fun W hW => by
        obtain ⟨g', o', e', -, h⟩ := rws_at (n := 9) (fun _ => rfl) (HRD5.out.below hW (Nat.le_of_lt HV5.out)) k hkl (by omega)
        cases e'
        exact h
      have HCF := hid (HFE.out es[k] (List.getElem_mem hkl))
      have HOP := hid (markE_opn hef hfo.1)
      have HRO := hid hfo.1.1
      have HQ1 := hid q1
      have HQ2 := hid q2
      have hku : (k : Int) < (u : Int) := by have := HU.out; omega
      have hku2 : ¬ (u : Int) ≤ (k : Int) := by omega
      have HMX := hid (HMK.out e HEF.out)
      have dku : decide ((u : Int) ≤ (k : Int)) = false := decide_eq_false hku2
      generalize es[k] = ce at *
      generalize markE e = mk at *
      clear q1 q2 hkl hgE hfe hef hsu hfo
      have HXX : Hid (∀ W, Below w5.heap.size w5 W → W.cell? ⟨w3.heap.size, 5, none⟩ = some (.slice (some ⟨gE, oE, none⟩) u c2)) := hid fun W hW => by rw [HU.out]; exact (R5.out.below hW R5.out.lt).cell 5
      have HSC := hid (fun W hW => HSB.out ce HCF.out W hW)
      have HSE := hid (fun W hW => HSB.out e HEF.out W hW)
      by_cases hce : ce = e
      · have HEQ : Hid (ce = e) := hid hce
        have HQ3 := hid (HQ2.out hce)
        clear hce
        go_wp2_with (first
          | (go_at_call 13; refine (HS.out _ HW.out).mono ?_; rintro x w11 ⟨rfl, hb⟩; have HW1 := hid (HW.out.trans (hb.mono HW.out.size)); have RK1 := hid (RK.out.below hb RK.out.lt); have HLT := hid (show w5.heap.size < w11.heap.size from RK1.out.lt); clear hb)
          | ((with_reducible show wpList _ _ _ ({ dst := none, op := .store _ (.tmp 11) (.tmp 39), type := _, pos := _, after := _, guard := _ } :: _) _ _); refine wpl_store_st rfl (.tmp 11) (.tmp 39) rfl HZE.out (w11.heap.size) (#[.int .i64 0, .int .i64 0, .int .i64 0, .int .u64 0, .int .i64 0, .int .i64 0, .int .i64 0, .int .i64 0, .string ⟨#[]⟩]) (e.cells) rfl rfl (Row.new _ _ _) ?_ (hid (by first | rfl | simp)) (hid (by first | rfl | simp)) (hid (ecells_one _)); intro w12 hr12 hg; have RE := hid hr12; have hb : Below w11.heap.size w11 w12 := ((Below.refl _ _).alloc (Nat.le_refl _) (.cells #[.int .i64 0, .int .i64 0, .int .i64 0, .int .u64 0, .int .i64 0, .int .i64 0, .int .i64 0, .int .i64 0, .string ⟨#[]⟩] 35)).trans (below_grown hg (Nat.le_refl _) (by simp)); have HW3 := hid (HW1.out.trans (hb.mono HW1.out.size)); have RK3 := hid (RK1.out.below hb RK1.out.lt); clear hr12 hg hb)
          | ((with_reducible show wpList _ _ _ ({ dst := some 44, op := _, type := _, pos := _, after := _, guard := _ } :: _) _ _); refine wpl_load_want rfl 27 (.tmp 9) rfl (w5.heap.size) rfl 27 (m.cells) (0, 0) _ (Row.arr RK3.out) Tryz.underlying27 rfl HZK.out ?_)
          | ((with_reducible show wpList _ _ _ ({ dst := some 45, op := _, type := _, pos := _, after := _, guard := _ } :: _) _ _); refine wpl_load_want rfl 35 (.tmp 11) rfl (w11.heap.size) rfl 35 (e.cells) (0, 0) _ (Row.arr RE.out) Tryz.underlying35 rfl (by rw [HSZ.out]; exact HZE.out) ?_)
          | (go_at_call 10; refine (HFOX.out _).mono ?_; rintro x w14 ⟨rfl, hb⟩; have HW4 := hid (HW3.out.trans (hb.mono HW3.out.size)); have RK4 := hid (RK3.out.below hb RK3.out.lt); have RE4 := hid (RE.out.below hb RE.out.lt); clear hb))
        refine wp_region_held_drew (S := (fun W => Row W w11.heap.size 35 e.cells.toList ∧ Row W w5.heap.size 27 m.cells.toList ∧ Below w5.heap.size w5 W)) (by kernel_rfl) (⟨RE4.out.drew, RK4.out.drew, HW4.out.drew⟩) (fun hH => ?_)
        refine tk_ (i := 0) (v := .int .i64 (k : Int)) rfl (Or.inl ⟨by rfl, fun w' hw' => by clear hw'; go_simp⟩) hH ?_
        simp only [Act.put, la1, la3, la4, la5, la6]
        refine tk_ (i := 1) (v := .pointer (some ⟨w3.heap.size, 5, none⟩)) rfl (Or.inl ⟨by rfl, fun w' hw' => by clear hw'; go_simp⟩) hH ?_
        simp only [Act.put, la1, la2, la3, la4, la5, la6]
        refine tk_ (i := 2) (v := .slice (some ⟨gE, oE, none⟩) u c2) rfl (Or.inl ⟨by rfl, fun w' hw' => by have h := HXX.out w' hw'.2.2; clear hw'; go_simp⟩) hH ?_
        simp only [Act.put, la1, la2, la3, la4, la5, la6]
        refine tk_ (i := 3) (v := .int .i64 (u : Int)) rfl (Or.inl ⟨by rfl, fun w' hw' => by clear hw'; go_simp⟩) hH ?_
        simp only [Act.put, la1, la2, la3, la4, la5, la6]
        refine tk_ (i := 4) (v := .bool false) rfl (Or.inl ⟨by rfl, fun w' hw' => by clear hw'; go_simp; omega⟩) hH ?_
        simp only [Act.put, la1, la2, la3, la4, la5, la6]
        refine tk_ (i := 5) (v := .bool false) rfl (Or.inl ⟨by kernel_rfl, fun w' _ => by kernel_rfl⟩) hH ?_
        simp only [Act.put, la1, la2, la3, la4, la5, la6]
        refine tk_ (i := 6) (v := .pointer (some ⟨w3.heap.size, 5, none⟩)) rfl (Or.inl ⟨by kernel_rfl, fun w' _ => by kernel_rfl⟩) hH ?_
        simp only [Act.put, la1, la2, la3, la4, la5, la6]
        refine tk_ (i := 7) (v := .slice (some ⟨gE, oE, none⟩) u c2) rfl (Or.inl ⟨by kernel_rfl, fun w' hw' => by have h := HXX.out w' hw'.2.2; clear hw'; go_simp⟩) hH ?_
        simp only [Act.put, la1, la2, la3, la4, la5, la6]
        refine tk_ (i := 8) (v := .int .i64 (k : Int)) rfl (Or.inl ⟨by kernel_rfl, fun w' _ => by kernel_rfl⟩) hH ?_
        simp only [Act.put, la1, la2, la3, la4, la5, la6]
        refine tk_ (i := 9) (v := .pointer (some ⟨gE, oE + k * 9, none⟩)) rfl (Or.inl ⟨by kernel_rfl, fun w' hw' => by clear hw'; go_simp⟩) hH ?_
        simp only [Act.put, la1, la2, la3, la4, la5, la6]
        refine tk_ (i := 10) (v := .agg (ce.cells)) rfl (yieldsIf_load_mid (by kernel_rfl) 35 (.tmp 58) rfl gE (oE + k * 9) rfl (Array.toList (ce.cells)) _ (fun W hW => HRG.out W hW.2.2) Tryz.underlying35 rfl (by exact HZE.out)) hH ?_
        simp only [Act.put, la1, la2, la3, la4, la5, la6]
        refine tk_ (i := 11) (v := .agg (e.cells)) rfl (yieldsIf_load_mid (by kernel_rfl) 35 (.tmp 11) rfl (w11.heap.size) 0 rfl (Array.toList (e.cells)) _ (fun W hW => Row.range hW.1) Tryz.underlying35 rfl (by exact HZE.out)) hH ?_
        simp only [Act.put, la1, la2, la3, la4, la5, la6]
        refine tk_ (i := 12) (v := .bool (!true)) rfl (yields_nee2 (by kernel_rfl) ce e true (hid ⟨fun _ => HEQ.out, fun _ => rfl⟩) (.tmp 59) (.tmp 60) _ rfl (by kernel_rfl) (by kernel_rfl)) hH ?_
        simp only [Act.put, la1, la2, la3, la4, la5, la6]
        refine tk_ (i := 13) (v := .bool false) rfl (Or.inl ⟨by kernel_rfl, fun w' _ => by kernel_rfl⟩) hH ?_
        simp only [Act.put, la1, la2, la3, la4, la5, la6]
        refine tk_ (i := 14) (v := undef) rfl (Or.inr ⟨by kernel_rfl, rfl⟩) hH ?_
        simp only [Act.put, la1, la2, la3, la4, la5, la6]
        refine tk_ (i := 15) (v := undef) rfl (Or.inr ⟨by kernel_rfl, rfl⟩) hH ?_
        simp only [Act.put, la1, la2, la3, la4, la5, la6]
        refine tk_ (i := 16) (v := undef) rfl (Or.inr ⟨by kernel_rfl, rfl⟩) hH ?_
        simp only [Act.put, la1, la2, la3, la4, la5, la6]
        refine tk_ (i := 17) (v := undef) rfl (Or.inr ⟨by kernel_rfl, rfl⟩) hH ?_
        simp only [Act.put, la1, la2, la3, la4, la5, la6]
        refine tk_ (i := 18) (v := undef) rfl (Or.inr ⟨by kernel_rfl, rfl⟩) hH ?_
        simp only [Act.put, la1, la2, la3, la4, la5, la6]
        refine tk_ (i := 19) (v := undef) rfl (Or.inr ⟨by kernel_rfl, rfl⟩) hH ?_
        simp only [Act.put, la1, la2, la3, la4, la5, la6]
        refine tk_ (i := 20) (v := undef) rfl (Or.inr ⟨by kernel_rfl, rfl⟩) hH ?_
        simp only [Act.put, la1, la2, la3, la4, la5, la6]
        refine tk_ (i := 21) (v := undef) rfl (Or.inr ⟨by kernel_rfl, rfl⟩) hH ?_
        simp only [Act.put, la1, la2, la3, la4, la5, la6]
        refine tk_ (i := 22) (v := undef) rfl (Or.inr ⟨by kernel_rfl, rfl⟩) hH ?_
        simp only [Act.put, la1, la2, la3, la4, la5, la6]
        refine tk_ (i := 23) (v := .bool false) rfl (Or.inl ⟨by kernel_rfl, fun w' _ => by kernel_rfl⟩) hH ?_
        simp only [Act.put, la1, la2, la3, la4, la5, la6]
        refine tk_ (i := 24) (v := .bool false) rfl (Or.inl ⟨by kernel_rfl, fun w' _ => by kernel_rfl⟩) hH ?_
        simp only [Act.put, la1, la2, la3, la4, la5, la6]
        refine wpAnyH_done (by kernel_rfl) ?_ _
        try simp only [Act.put, la1, la2, la3, la4, la5, la6]
        have HW5 := hid hH.2.2
        have RE5 := hid hH.1
        have RK5 := hid hH.2.1
        clear hH
        go_wp2_with fail
        refine wp_region_held_drew (S := (fun W => Row W w11.heap.size 35 e.cells.toList ∧ Row W w5.heap.size 27 m.cells.toList ∧ Below w5.heap.size w5 W)) (by kernel_rfl) (⟨RE5.out.drew, RK5.out.drew, HW5.out.drew⟩) (fun hH => ?_)
        refine tk_ (i := 0) (v := .pointer (some ⟨w3.heap.size, 5, none⟩)) rfl (Or.inl ⟨by rfl, fun w' hw' => by clear hw'; go_simp⟩) hH ?_
        simp only [Act.put, la1, la3, la4, la5, la6]
        refine tk_ (i := 1) (v := .slice (some ⟨gE, oE, none⟩) u c2) rfl (Or.inl ⟨by rfl, fun w' hw' => by have h := HXX.out w' hw'.2.2; clear hw'; go_simp⟩) hH ?_
        simp only [Act.put, la1, la2, la3, la4, la5, la6]
        refine tk_ (i := 2) (v := .int .i64 (k : Int)) rfl (Or.inl ⟨by rfl, fun w' hw' => by clear hw'; go_simp⟩) hH ?_
        simp only [Act.put, la1, la2, la3, la4, la5, la6]
        refine tk_ (i := 3) (v := .pointer (some ⟨gE, oE + k * 9, none⟩)) rfl (Or.inl ⟨by rfl, fun w' hw' => by clear hw'; go_simp⟩) hH ?_
        simp only [Act.put, la1, la2, la3, la4, la5, la6]
        refine tk_ (i := 4) (v := .agg (ce.cells)) rfl (yieldsIf_load_mid rfl 35 (.tmp 77) rfl (gE) (oE + k * 9) rfl (Array.toList (ce.cells)) _ (fun W hW => HRG.out W hW.2.2) Tryz.underlying35 rfl (by exact HZE.out)) hH ?_
        simp only [Act.put, la1, la2, la3, la4, la5, la6]
        refine tk_ (i := 5) (v := .agg (e.cells)) rfl (yieldsIf_load_mid rfl 35 (.tmp 11) rfl (w11.heap.size) (0) rfl (Array.toList (e.cells)) _ (fun W hW => Row.range hW.1) Tryz.underlying35 rfl (by exact HZE.out)) hH ?_
        simp only [Act.put, la1, la2, la3, la4, la5, la6]
        refine tk_ (i := 6) (v := .bool (!true)) rfl (yields_nee2 (by kernel_rfl) ce e true (hid ⟨fun _ => HEQ.out, fun _ => rfl⟩) (.tmp 78) (.tmp 79) _ rfl (by kernel_rfl) (by kernel_rfl)) hH ?_
        simp only [Act.put, la1, la2, la3, la4, la5, la6]
        refine wpAnyH_done (by kernel_rfl) ?_ _
        try simp only [Act.put, la1, la2, la3, la4, la5, la6]
        have HW7 := hid hH.2.2
        have RE7 := hid hH.1
        have RK7 := hid hH.2.1
        clear hH
        go_wp2_with (first
          | ((with_reducible show wpList _ _ _ ({ dst := some 81, op := _, type := _, pos := _, after := _, guard := _ } :: _) _ _); refine wpList_load_row rfl 35 (.tmp 11) rfl (w11.heap.size) rfl 35 (e.cells) (0, 0) _ (Row.arr RE7.out) Tryz.underlying35 rfl (by rw [HSZ.out]; exact HZE.out) ?_)
          | (go_at_call 11; refine (HMX.out _ (HB5.out.trans (HW7.out.mono HB5.out.size))).mono ?_; rintro y w17 ⟨rfl, hb⟩; have HW8 := hid (HW7.out.trans (hb.mono HW7.out.size)); have RK8 := hid (RK7.out.below hb RK7.out.lt); clear hb)
          | ((with_reducible show wpList _ _ _ ({ dst := none, op := .store _ (.tmp 9) (.tmp 82), type := _, pos := _, after := _, guard := _ } :: _) _ _); refine wpl_store_st rfl (.tmp 9) (.tmp 82) rfl HZK.out (w5.heap.size) (m.cells) (mk.cells) rfl rfl (RK8.out) ?_ (hid (by first | rfl | simp)) (hid (by first | rfl | simp)) (hid (mcells_one _)); intro w13 hr13 hg13; have hw13 := HW8.out.trans (below_grown hg13 (Nat.le_refl _) HW8.out.size)))
        go_roundw
        case rel => exact ⟨k + 1, by omega, by go_num, mk, hid (by rw [← HD.out]; exact HQ3.out), hid (by rw [HOP.out]; have := HRO.out; omega), hid hr13, hid hw13⟩
        case measure => simp [intOf]; omega
      · have HEQ : Hid (¬ ce = e) := hid hce
        have HST := hid (HQ1.out hce)
        clear hce
        go_wp2_with (first
          | (go_at_call 13; refine (HS.out _ HW.out).mono ?_; rintro x w11 ⟨rfl, hb⟩; have HW1 := hid (HW.out.trans (hb.mono HW.out.size)); have RK1 := hid (RK.out.below hb RK.out.lt); have HLT := hid (show w5.heap.size < w11.heap.size from RK1.out.lt); clear hb)
          | ((with_reducible show wpList _ _ _ ({ dst := none, op := .store _ (.tmp 11) (.tmp 39), type := _, pos := _, after := _, guard := _ } :: _) _ _); refine wpl_store_st rfl (.tmp 11) (.tmp 39) rfl HZE.out (w11.heap.size) (#[.int .i64 0, .int .i64 0, .int .i64 0, .int .u64 0, .int .i64 0, .int .i64 0, .int .i64 0, .int .i64 0, .string ⟨#[]⟩]) (e.cells) rfl rfl (Row.new _ _ _) ?_ (hid (by first | rfl | simp)) (hid (by first | rfl | simp)) (hid (ecells_one _)); intro w12 hr12 hg; have RE := hid hr12; have hb : Below w11.heap.size w11 w12 := ((Below.refl _ _).alloc (Nat.le_refl _) (.cells #[.int .i64 0, .int .i64 0, .int .i64 0, .int .u64 0, .int .i64 0, .int .i64 0, .int .i64 0, .int .i64 0, .string ⟨#[]⟩] 35)).trans (below_grown hg (Nat.le_refl _) (by simp)); have HW3 := hid (HW1.out.trans (hb.mono HW1.out.size)); have RK3 := hid (RK1.out.below hb RK1.out.lt); clear hr12 hg hb)
          | ((with_reducible show wpList _ _ _ ({ dst := some 44, op := _, type := _, pos := _, after := _, guard := _ } :: _) _ _); refine wpl_load_want rfl 27 (.tmp 9) rfl (w5.heap.size) rfl 27 (m.cells) (0, 0) _ (Row.arr RK3.out) Tryz.underlying27 rfl HZK.out ?_)
          | ((with_reducible show wpList _ _ _ ({ dst := some 45, op := _, type := _, pos := _, after := _, guard := _ } :: _) _ _); refine wpl_load_want rfl 35 (.tmp 11) rfl (w11.heap.size) rfl 35 (e.cells) (0, 0) _ (Row.arr RE.out) Tryz.underlying35 rfl (by rw [HSZ.out]; exact HZE.out) ?_)
          | (go_at_call 10; refine (HFOX.out _).mono ?_; rintro x w14 ⟨rfl, hb⟩; have HW4 := hid (HW3.out.trans (hb.mono HW3.out.size)); have RK4 := hid (RK3.out.below hb RK3.out.lt); have RE4 := hid (RE.out.below hb RE.out.lt); clear hb))
        refine wp_region_held_drew (S := (fun W => Row W w11.heap.size 35 e.cells.toList ∧ Row W w5.heap.size 27 m.cells.toList ∧ Below w5.heap.size w5 W)) (by kernel_rfl) (⟨RE4.out.drew, RK4.out.drew, HW4.out.drew⟩) (fun hH => ?_)
        refine tk_ (i := 0) (v := .int .i64 (k : Int)) rfl (Or.inl ⟨by rfl, fun w' hw' => by clear hw'; go_simp⟩) hH ?_
        simp only [Act.put, la1, la3, la4, la5, la6]
        refine tk_ (i := 1) (v := .pointer (some ⟨w3.heap.size, 5, none⟩)) rfl (Or.inl ⟨by rfl, fun w' hw' => by clear hw'; go_simp⟩) hH ?_
        simp only [Act.put, la1, la2, la3, la4, la5, la6]
        refine tk_ (i := 2) (v := .slice (some ⟨gE, oE, none⟩) u c2) rfl (Or.inl ⟨by rfl, fun w' hw' => by have h := HXX.out w' hw'.2.2; clear hw'; go_simp⟩) hH ?_
        simp only [Act.put, la1, la2, la3, la4, la5, la6]
        refine tk_ (i := 3) (v := .int .i64 (u : Int)) rfl (Or.inl ⟨by rfl, fun w' hw' => by clear hw'; go_simp⟩) hH ?_
        simp only [Act.put, la1, la2, la3, la4, la5, la6]
        refine tk_ (i := 4) (v := .bool false) rfl (Or.inl ⟨by rfl, fun w' hw' => by clear hw'; go_simp; omega⟩) hH ?_
        simp only [Act.put, la1, la2, la3, la4, la5, la6]
        refine tk_ (i := 5) (v := .bool false) rfl (Or.inl ⟨by kernel_rfl, fun w' _ => by kernel_rfl⟩) hH ?_
        simp only [Act.put, la1, la2, la3, la4, la5, la6]
        refine tk_ (i := 6) (v := .pointer (some ⟨w3.heap.size, 5, none⟩)) rfl (Or.inl ⟨by kernel_rfl, fun w' _ => by kernel_rfl⟩) hH ?_
        simp only [Act.put, la1, la2, la3, la4, la5, la6]
        refine tk_ (i := 7) (v := .slice (some ⟨gE, oE, none⟩) u c2) rfl (Or.inl ⟨by kernel_rfl, fun w' hw' => by have h := HXX.out w' hw'.2.2; clear hw'; go_simp⟩) hH ?_
        simp only [Act.put, la1, la2, la3, la4, la5, la6]
        refine tk_ (i := 8) (v := .int .i64 (k : Int)) rfl (Or.inl ⟨by kernel_rfl, fun w' _ => by kernel_rfl⟩) hH ?_
        simp only [Act.put, la1, la2, la3, la4, la5, la6]
        refine tk_ (i := 9) (v := .pointer (some ⟨gE, oE + k * 9, none⟩)) rfl (Or.inl ⟨by kernel_rfl, fun w' hw' => by clear hw'; go_simp⟩) hH ?_
        simp only [Act.put, la1, la2, la3, la4, la5, la6]
        refine tk_ (i := 10) (v := .agg (ce.cells)) rfl (yieldsIf_load_mid (by kernel_rfl) 35 (.tmp 58) rfl gE (oE + k * 9) rfl (Array.toList (ce.cells)) _ (fun W hW => HRG.out W hW.2.2) Tryz.underlying35 rfl (by exact HZE.out)) hH ?_
        simp only [Act.put, la1, la2, la3, la4, la5, la6]
        refine tk_ (i := 11) (v := .agg (e.cells)) rfl (yieldsIf_load_mid (by kernel_rfl) 35 (.tmp 11) rfl (w11.heap.size) 0 rfl (Array.toList (e.cells)) _ (fun W hW => Row.range hW.1) Tryz.underlying35 rfl (by exact HZE.out)) hH ?_
        simp only [Act.put, la1, la2, la3, la4, la5, la6]
        refine tk_ (i := 12) (v := .bool (!false)) rfl (yields_nee2 (by kernel_rfl) ce e false (hid ⟨(fun h => by cases h), fun h => absurd h HEQ.out⟩) (.tmp 59) (.tmp 60) _ rfl (by kernel_rfl) (by kernel_rfl)) hH ?_
        simp only [Act.put, la1, la2, la3, la4, la5, la6]
        refine tk_ (i := 13) (v := .bool true) rfl (Or.inl ⟨by kernel_rfl, fun w' _ => by kernel_rfl⟩) hH ?_
        simp only [Act.put, la1, la2, la3, la4, la5, la6]
        refine tk_ (i := 14) (v := .pointer (some ⟨w3.heap.size, 5, none⟩)) rfl (Or.inl ⟨by kernel_rfl, fun w' _ => by kernel_rfl⟩) hH ?_
        simp only [Act.put, la1, la2, la3, la4, la5, la6]
        refine tk_ (i := 15) (v := .slice (some ⟨gE, oE, none⟩) u c2) rfl (Or.inl ⟨by kernel_rfl, fun w' hw' => by have h := HXX.out w' hw'.2.2; clear hw'; go_simp⟩) hH ?_
        simp only [Act.put, la1, la2, la3, la4, la5, la6]
        refine tk_ (i := 16) (v := .int .i64 (k : Int)) rfl (Or.inl ⟨by kernel_rfl, fun w' _ => by kernel_rfl⟩) hH ?_
        simp only [Act.put, la1, la2, la3, la4, la5, la6]
        refine tk_ (i := 17) (v := .pointer (some ⟨gE, oE + k * 9, none⟩)) rfl (Or.inl ⟨by kernel_rfl, fun w' hw' => by clear hw'; go_simp⟩) hH ?_
        simp only [Act.put, la1, la2, la3, la4, la5, la6]
        refine tk_ (i := 18) (v := .agg (ce.cells)) rfl (yieldsIf_load_mid (by kernel_rfl) 35 (.tmp 66) rfl gE (oE + k * 9) rfl (Array.toList (ce.cells)) _ (fun W hW => HRG.out W hW.2.2) Tryz.underlying35 rfl (by exact HZE.out)) hH ?_
        simp only [Act.put, la1, la2, la3, la4, la5, la6]
        refine tk_ (i := 20) (v := .agg (e.cells)) rfl (yieldsIf_load_mid (by kernel_rfl) 35 (.tmp 11) rfl (w11.heap.size) 0 rfl (Array.toList (e.cells)) _ (fun W hW => Row.range hW.1) Tryz.underlying35 rfl (by exact HZE.out)) hH ?_
        simp only [Act.put, la1, la2, la3, la4, la5, la6]
        refine rd1 (i := 19) (by kernel_rfl) rfl (fun K hK => ?_)
        rw [if_pos (by kernel_rfl)]
        go_simp
        go_at_call 14
        refine (HSC.out _ (HB5.out.trans (hH.2.2.mono HB5.out.size))).mono ?_
        rintro y w15 ⟨rfl, hb⟩
        go_wp2_with fail
        refine hK.out _ _ (⟨hH.1.below hb hH.1.lt, hH.2.1.below hb hH.2.1.lt, hH.2.2.trans (hb.mono hH.2.2.size)⟩) (fun hH => ?_)
        clear hK K
        try simp only [Act.put, la1, la2, la3, la4, la5, la6]
        refine rd1 (i := 21) (by kernel_rfl) rfl (fun K hK => ?_)
        rw [if_pos (by kernel_rfl)]
        go_simp
        go_at_call 14
        refine (HSE.out _ (HB5.out.trans (hH.2.2.mono HB5.out.size))).mono ?_
        rintro y w16 ⟨rfl, hb⟩
        go_wp2_with fail
        refine hK.out _ _ (⟨hH.1.below hb hH.1.lt, hH.2.1.below hb hH.2.1.lt, hH.2.2.trans (hb.mono hH.2.2.size)⟩) (fun hH => ?_)
        clear hK K
        try simp only [Act.put, la1, la2, la3, la4, la5, la6]
        refine tk_ (i := 22) (v := .bool (!true)) rfl (yields_nes (by kernel_rfl) (stubS ce) (stubS e) true (hid (decide_eq_true HST.out)) (.tmp 68) (.tmp 70) _ rfl (by kernel_rfl) (by kernel_rfl)) hH ?_
        simp only [Act.put, la1, la2, la3, la4, la5, la6]
        refine tk_ (i := 23) (v := .bool false) rfl (Or.inl ⟨by kernel_rfl, fun w' _ => by kernel_rfl⟩) hH ?_
        simp only [Act.put, la1, la2, la3, la4, la5, la6]
        refine tk_ (i := 24) (v := .bool false) rfl (Or.inl ⟨by kernel_rfl, fun w' _ => by kernel_rfl⟩) hH ?_
        simp only [Act.put, la1, la2, la3, la4, la5, la6]
        refine wpAnyH_done (by kernel_rfl) ?_ _
        try simp only [Act.put, la1, la2, la3, la4, la5, la6]
        have HW5 := hid hH.2.2
        have RE5 := hid hH.1
        have RK5 := hid hH.2.1
        clear hH
        go_wp2_with fail
        refine wp_region_held_drew (S := (fun W => Row W w11.heap.size 35 e.cells.toList ∧ Row W w5.heap.size 27 m.cells.toList ∧ Below w5.heap.size w5 W)) (by kernel_rfl) (⟨RE5.out.drew, RK5.out.drew, HW5.out.drew⟩) (fun hH => ?_)
        refine tk_ (i := 0) (v := .pointer (some ⟨w3.heap.size, 5, none⟩)) rfl (Or.inl ⟨by rfl, fun w' hw' => by clear hw'; go_simp⟩) hH ?_
        simp only [Act.put, la1, la3, la4, la5, la6]
        refine tk_ (i := 1) (v := .slice (some ⟨gE, oE, none⟩) u c2) rfl (Or.inl ⟨by rfl, fun w' hw' => by have h := HXX.out w' hw'.2.2; clear hw'; go_simp⟩) hH ?_
        simp only [Act.put, la1, la2, la3, la4, la5, la6]
        refine tk_ (i := 2) (v := .int .i64 (k : Int)) rfl (Or.inl ⟨by rfl, fun w' hw' => by clear hw'; go_simp⟩) hH ?_
        simp only [Act.put, la1, la2, la3, la4, la5, la6]
        refine tk_ (i := 3) (v := .pointer (some ⟨gE, oE + k * 9, none⟩)) rfl (Or.inl ⟨by rfl, fun w' hw' => by clear hw'; go_simp⟩) hH ?_
        simp only [Act.put, la1, la2, la3, la4, la5, la6]
        refine tk_ (i := 4) (v := .agg (ce.cells)) rfl (yieldsIf_load_mid rfl 35 (.tmp 77) rfl (gE) (oE + k * 9) rfl (Array.toList (ce.cells)) _ (fun W hW => HRG.out W hW.2.2) Tryz.underlying35 rfl (by exact HZE.out)) hH ?_
        simp only [Act.put, la1, la2, la3, la4, la5, la6]
        refine tk_ (i := 5) (v := .agg (e.cells)) rfl (yieldsIf_load_mid rfl 35 (.tmp 11) rfl (w11.heap.size) (0) rfl (Array.toList (e.cells)) _ (fun W hW => Row.range hW.1) Tryz.underlying35 rfl (by exact HZE.out)) hH ?_
        simp only [Act.put, la1, la2, la3, la4, la5, la6]
        refine tk_ (i := 6) (v := .bool (!false)) rfl (yields_nee2 (by kernel_rfl) ce e false (hid ⟨(fun h => by cases h), fun h => absurd h HEQ.out⟩) (.tmp 78) (.tmp 79) _ rfl (by kernel_rfl) (by kernel_rfl)) hH ?_
        simp only [Act.put, la1, la2, la3, la4, la5, la6]
        refine wpAnyH_done (by kernel_rfl) ?_ _
        try simp only [Act.put, la1, la2, la3, la4, la5, la6]
        have HW7 := hid hH.2.2
        have RE7 := hid hH.1
        have RK7 := hid hH.2.1
        clear hH
        go_wp2_with fail
        go_ret
        exact ⟨rfl, HB5.out.trans (HW7.out.mono HB5.out.size)⟩
    · obtain rfl : k = 8 := by omega
      go_wp2_with fail
      go_ret
      exact ⟨rfl, HBX.out⟩
end Go.Proofs.YteahbalcielhpaaGreatDoor
