/-
  The walk of SessionFew, on.
-/
import Derived.Test.YtgphijkonmdehaaFer
namespace Go.Proofs.Ytgphijkonmdehaa
open Go.RowKit
set_option maxRecDepth 10000

set_option maxHeartbeats 8000000 in
theorem few_ok (A : Option Addr) (XS : List Ab) (n cc : Nat) (c o : Int) (w : World) (hr : Rd w w.heap.size A (rows Ab.cells XS)) (hn : n = XS.length) (hbig : n ≤ 9223372036854775807) (h0 : opnE (playN XS) c o = 0) : Calls Try.prog 4 #[.slice A n cc, .int .i64 c, .int .i64 o] w (VE w (.bool true)) := by
  have HOP : Hid (∀ p fp W, Gk 54 p (playN XS) fp W → Calls Try.prog 18 #[.pointer (some ⟨p, 0, none⟩), .int .i64 c, .int .i64 o] W fun e w' => e = .returned (.tuple #[.int .i64 (opnL (playN XS) c o), .int .i64 0]) ∧ Gw 54 p W fp (opn (playN XS) c o) w') := hid fun p fp W hk => by
    have := opn_any p fp (playN XS) c o W hk
    rw [h0] at this
    exact this
  have HE := hid (few_gone (playN_wf XS) (playN_one XS) h0)
  have HNE := hid (few_left (playN_one XS) h0)
  have hfin := few_end (playN_wf XS) h0
  have hnew := few_new (playN_one XS) h0
  have hu3 := (opn_wf (playN_wf XS) c o).le
  have HLK : Hid (∀ p W, Sk w 54 p (opn (playN XS) c o) W → Calls Try.prog 12 #[.pointer (some ⟨p, 0, none⟩), .int .i64 c] W (LK W (fresh c o) true)) := hid fun p W h => by
    have := looked_sk h c
    rw [hnew.1, hnew.2] at this
    exact this
  clear hnew
  generalize opnL (playN XS) c o = gn at *
  generalize opn (playN XS) c o = U at *
  obtain ⟨nu, hnu⟩ : ∃ nu, U.length = nu := ⟨_, rfl⟩
  have HNU := hid hnu
  rw [hnu] at hu3
  have q3u : ¬ 3 < (nu : Int) := by omega
  clear hnu
  have HZ := hid ssSize
  obtain ⟨nt, hnt⟩ : ∃ nt, (playN XS).length = nt := ⟨_, rfl⟩
  have HNT := hid hnt
  have hn3 : nt ≤ 3 := by rw [← hnt]; exact (playN_wf XS).le
  have HN3 := hid hn3
  have q3t : ¬ 3 < (nt : Int) := by omega
  clear hnt
  rw [HNT.out] at hfin
  obtain ⟨fb, hfb⟩ : ∃ fb, decide (nt = 3) = fb := ⟨_, rfl⟩
  have HF2 : Hid (((nt : Int) == 3) = fb) := hid (by rw [← hfb]; by_cases h : nt = 3 <;> simp [h]; omega)
  have HF1 : Hid ((gn != 0) = fb) := hid (by rw [hfin, hfb])
  have HE2 : Hid (∀ i (hi : i < (playN XS).length), (playN XS)[i].c = gn → 3 ≤ nt) := hid fun i hi hx => by have := (HE.out i hi hx).2.1; rw [HNT.out] at this; exact this
  clear hfb hfin h0
  have HR := hid hr
  have HN := hid hn
  have HST := hid (fun k (hk : k < XS.length) => playS_take XS k hk)
  have HEND : Hid (∀ k, k = 60 → playS (XS.take k) = playN XS) := hid fun k he => by
    unfold playN
    congr 1
    rw [List.take_eq_take_iff]
    omega
  have HEND2 : Hid (∀ k, k = n → k ≤ 60 → playS (XS.take k) = playN XS) := hid fun k hk he => by
    unfold playN
    congr 1
    rw [List.take_eq_take_iff]
    omega
  have HD := hid (fun p (T : List Ss) (x : Ab) fp W (hk : Gk 54 p T fp W) => does_any p fp T x W hk)
  have HX6 := hid (show (Try.prog.info? 34).map (·.size) = some 6 from by kernel_rfl)
  have HAW := hid awake_any
  clear hr hn
  go_enter Try.func4, Try.ntmps4
  go_wp2_with (first
    | (go_at_call 8; refine (HAW.out _).mono ?_; rintro e w1 ⟨rfl, hx⟩; have HBB := hid hx; clear hx)
    | (go_at_call 9; refine (new_any _).mono ?_; rintro e w1 ⟨p, fp, rfl, hk, hf, hx⟩; have HSK := hid (Sk.mk' HBB.out hk hf hx); clear hk hf hx))
  go_loopw [8] (fun iv wr => ∃ k : Nat, k ≤ n ∧ k ≤ 60 ∧ iv = .int .i64 (k : Int) ∧ Sk w 54 p (playS (XS.take k)) wr) (fun iv _ => n - (intOf iv).toNat)
  case atStart => exact ⟨0, by omega, by omega, rfl, HSK.out⟩
  case round =>
    obtain ⟨k, hk, hk60, rfl, hsk⟩ := hrel
    have HSR := hid hsk
    clear hsk
    by_cases hlt : k < n
    · by_cases hlt60 : k < 60
      · have hkl : k < XS.length := by rw [← HN.out]; exact hlt
        have hrd := HR.out.below HSR.out.frame (Nat.le_refl _)
        obtain ⟨ga, o, rfl⟩ := shape_of hrd Ab.len (by decide) (by omega)
        have hrg := hrd.range Ab.len k hkl
        have HDK := hid (fun fp W hk => HD.out p (playS (XS.take k)) XS[k] fp W hk)
        rw [← HST.out k hkl] at HDK
        have HC6 : Hid ((Ab.cells XS[k]).length = 6) := hid (Ab.len _)
        generalize doV (playS (XS.take k)) XS[k] = dv at *
        generalize doE (playS (XS.take k)) XS[k] = de at *
        generalize Ab.cells XS[k] = X at *
        obtain ⟨U, hU⟩ : ∃ U, playS (XS.take (k + 1)) = U := ⟨_, rfl⟩
        rw [hU] at HDK
        have HUU := hid hU
        clear hU
        have HRG := hid hrg
        have hi0 : (0 : Int) ≤ (k : Int) := by omega
        have hi1 : (k : Int) < (n : Int) := by omega
        have hi2 : (k : Int) < 60 := by omega
        clear hrd hrg
        go_wp2_with (first
          | (refine wpList_load_mid rfl 34 (.tmp 35) rfl ga (o + k * 6) rfl X _ HRG.out Try.underlying34 rfl (by rw [HC6.out]; exact HX6.out) ?_)
          | (go_at_call 10; refine (HSR.out.call (fun fp hk => HDK.out fp _ hk)).mono ?_; rintro e w2 ⟨rfl, hs2⟩))
        exact ⟨⟨k + 1, by omega, by omega, by go_num, by rw [HUU.out]; exact hs2⟩, by simp [intOf]; omega⟩
      · have HT : Hid (Sk w 54 p (playN XS) wr) := hid (by rw [← HEND.out k (by omega)]; exact HSR.out)
        have hi1 : (k : Int) < (n : Int) := by omega
        have hi2 : ¬ (k : Int) < 60 := by omega
        clear HSR HST HEND HEND2
        generalize playN XS = T at *
        have HL1 : Hid True := hid trivial
        go_wp2_with (first
          | (go_at_call 15; have tok := HL1.out; refine (HT.out.listed).mono ?_; intro e w3 hh; obtain ⟨A9, c9, rfl, hc9, hr9, hx, hn9⟩ := hh; rw [HNT.out]; have HAK := hid (HT.out.list hr9 hx hn9); have HC9 := hid (by rw [HNT.out] at hc9; exact hc9 : nt ≤ c9); clear hx hr9 hc9 hn9 tok HL1 HT)
          | (go_at_call 18; refine (HAK.out.call (fun fp hk => HOP.out p fp _ hk)).mono ?_; rintro e w4 ⟨rfl, hx⟩; have HAU := hid hx; clear hx HAK)
          | (go_at_call 15; refine (HAU.out.fst.listed).mono ?_; intro e w5 hh; obtain ⟨A10, c10, rfl, -, -, hx, -⟩ := hh; rw [HNU.out]; replace HAU := hid (HAU.out.below hx); clear hx)
          | (go_at_call 12; refine (HLK.out _ _ HAU.out.fst).mono ?_; rintro e w6 ⟨rfl, hx⟩; replace HAU := hid (HAU.out.below hx); clear hx)
          | (refine wpl_store_st rfl (.tmp 13) (.tmp 70) rfl HZ.out w6.heap.size ss0.cells (Ss.cells (fresh c o)) rfl rfl (Row.new _ _ _) ?_ (hid rfl) (hid rfl) (hid rfl); intro w7 hr7 hg7; have hb7 : Below w6.heap.size w6 w7 := ((Below.refl _ _).alloc (Nat.le_refl _) _).trans (below_grown hg7 (Nat.le_refl _) (by simp)); replace HAU := hid (HAU.out.below hb7); have HR7 := hid hr7; clear hb7 hg7 hr7)
          | (refine wpl_load_want rfl 37 (.tmp 13) rfl w6.heap.size rfl 37 (Ss.cells (fresh c o)).toArray (0, 0) _ HR7.out.arr' Try.underlying37 rfl HZ.out ?_)
          | (refine wpl_nes rfl (fresh c o) (.tmp 75) (.tmp 79) _ rfl rfl rfl ?_))
        clear HR7
        go_loopw [15] (fun iv wr => ∃ i : Nat, i ≤ nt ∧ iv = .int .i64 (i : Int) ∧ Ak w 54 p U A9 (rows Ss.cells T) wr) (fun iv _ => nt - (intOf iv).toNat)
        case atStart => exact ⟨0, by omega, rfl, HAU.out⟩
        case round =>
          obtain ⟨i, hi, rfl, hak⟩ := hrel
          have HAR := hid hak
          clear hak
          by_cases hlt : i < nt
          · have hil : i < T.length := by rw [HNT.out]; exact hlt
            obtain ⟨ga, oa, rfl⟩ := shape_of HAR.out.rd Ss.len (by decide) (by omega)
            have HRD := hid HAR.out.rd
            have HRW := hid (fun W (hW : Below wr.heap.size wr W) => (HRD.out.below hW (Nat.le_refl _)).range Ss.len i hil)
            have hrw := HRW.out wr (Below.refl _ _)
            have hc0 := hrw 0 _ rfl
            rw [Nat.add_zero] at hc0
            have hi0 : (0 : Int) ≤ (i : Int) := by omega
            have hi1 : (i : Int) < (nt : Int) := by omega
            have HXC0 : Hid (∀ W, Below wr.heap.size wr W → W.cell? ⟨ga, oa + i * 5, none⟩ = some (.int .i64 T[i].c)) := hid fun W hW => by
              have h := HRW.out W hW 0 _ rfl
              rw [Nat.add_zero] at h
              exact h
            clear hrw
            by_cases hxc : T[i].c = gn
            · obtain ⟨f1, f2, f3⟩ := HE.out i hil hxc
              have HLI : Hid (∀ W, Sk w 54 p U W → Calls Try.prog 12 #[.pointer (some ⟨p, 0, none⟩), .int .i64 gn] W (LK W ss0 false)) := hid fun W h => by
                have := looked_sk h T[i].c
                rw [f1.1, f1.2, hxc] at this
                exact this
              have HOMIN := hid f3
              have HCO := hid (fun k (hk : k < T.length) W (hW : Below wr.heap.size wr W) => (HRD.out.below hW (Nat.le_refl _)).range Ss.len k hk 3 _ rfl)
              rw [hxc] at hc0 HXC0
              have q1 : (gn == gn) = true := beq_iff_eq.2 rfl
              have q3 : ¬ (nt : Int) < 3 := by have := HE2.out i hil hxc; omega
              obtain ⟨oi, hoi⟩ : ∃ oi, T[i].o = oi := ⟨_, rfl⟩
              have HCOI := hid (HCO.out i hil)
              have HOI := hid (fun k (hk : k < T.length) => HOMIN.out k hk)
              have HOIE := hid hoi
              clear f1 f2 f3 hxc hoi
              go_wp2_with (first
                | (go_at_call 12; refine (HLI.out _ HAR.out.fst).mono ?_; rintro e w5 ⟨rfl, hx⟩; have HB5 := hid hx; clear hx)
                | (refine wpl_store_st rfl (.tmp 16) (.tmp 96) rfl HZ.out w5.heap.size ss0.cells ss0.cells rfl rfl (Row.new _ _ _) ?_ (hid rfl) (hid rfl) (hid rfl); intro w6 hr6 hg6; have hb6 : Below w5.heap.size w5 w6 := ((Below.refl _ _).alloc (Nat.le_refl _) _).trans (below_grown hg6 (Nat.le_refl _) (by simp)); have HB6 := hid (HB5.out.trans (hb6.mono HB5.out.size)); have hc6 := HXC0.out _ HB6.out; clear hb6 hg6 hr6))
              clear hc6 hc0
              go_loopw [18] (fun kv wq => ∃ k : Nat, k ≤ nt ∧ kv = .int .i64 (k : Int) ∧ Below wr.heap.size wr wq) (fun kv _ => nt - (intOf kv).toNat)
              case atStart => exact ⟨0, by omega, rfl, HB6.out⟩
              case round =>
                obtain ⟨k, hk, rfl, hbq⟩ := hrel
                have HBQ := hid hbq
                by_cases hkt : k < nt
                · have hkl : k < T.length := by rw [HNT.out]; exact hkt
                  have hck := HCO.out k hkl wr hbq
                  have hci := HCOI.out wr hbq
                  have hdk := HOI.out k hkl
                  have hd : decide (T[k].o < T[i].o) = false := decide_eq_false (by omega)
                  generalize T[k].o = ok at *
                  generalize T[i].o = oi2 at *
                  have hk0 : (0 : Int) ≤ (k : Int) := by omega
                  have hk1 : (k : Int) < (nt : Int) := by omega
                  clear hbq hdk
                  go_wp2_with fail
                  go_quiet (fail)
                  go_wp2_with fail
                  exact ⟨⟨k + 1, by omega, by go_num, below_drewN HBQ.out _⟩, by simp [intOf]; omega⟩
                · obtain rfl : k = nt := by omega
                  clear hbq
                  go_wp2_with fail
                  exact ⟨⟨i + 1, by omega, by go_num, HAR.out.below HBQ.out⟩, by simp [intOf]; omega⟩
            · obtain ⟨f1, f2⟩ := HNE.out i hil hxc
              have HLI : Hid (∀ W, Sk w 54 p U W → Calls Try.prog 12 #[.pointer (some ⟨p, 0, none⟩), .int .i64 T[i].c] W (LK W T[i] true)) := hid fun W h => by
                have := looked_sk h T[i].c
                rw [f1, f2] at this
                exact this
              unfold LK at HLI
              have hEQ := eqSs T[i]
              have HC5 : Hid ((Ss.cells T[i]).length = 5) := hid (Ss.len _)
              have HC1 : Hid ((Ss.cells T[i]).all (·.oneCell') = true) := hid (Ss.one _)
              have q1 : (T[i].c == gn) = false := beq_eq_false_iff_ne.2 hxc
              generalize T[i].c = xc at *
              generalize Ss.cells T[i] = X at *
              clear f1 f2 hxc
              go_wp2_with (first
                | (go_at_call 12; refine (HLI.out _ HAR.out.fst).mono ?_; rintro e w5 ⟨rfl, hx⟩; have HB5 := hid hx; clear hx)
                | (refine wpl_store_st rfl (.tmp 16) (.tmp 96) rfl HZ.out w5.heap.size ss0.cells X rfl rfl (Row.new _ _ _) ?_ (hid rfl) (hid HC5.out) (hid HC1.out); intro w6 hr6 hg6; have hb6 : Below w5.heap.size w5 w6 := ((Below.refl _ _).alloc (Nat.le_refl _) _).trans (below_grown hg6 (Nat.le_refl _) (by simp)); have HB6 := hid (HB5.out.trans (hb6.mono HB5.out.size)); have HR6 := hid hr6; have hc6 := HXC0.out _ HB6.out; clear hb6 hg6 hr6))
              have HG16 : Hid (∀ W, Below w6.heap.size w6 W → W.rangeAt w5.heap.size 0 X) := hid fun W hW j u hu => by rw [Nat.zero_add]; exact (HR6.out.below hW HR6.out.lt).at_ j u hu
              have HG9 : Hid (∀ W, Below w6.heap.size w6 W → W.rangeAt ga (oa + i * 5) X) := hid fun W hW => HRW.out W (HB6.out.trans (hW.mono HB6.out.size))
              clear hc6 hc0
              have hEG := egSs
              refine wp_region_held_drew (S := fun w' => Below w6.heap.size w6 w') (by kernel_rfl) (Below.refl _ _).drew (fun hH => ?_)
              refine wpAnyH_take (i := 0) (v := .bool true) rfl (by kernel_rfl) (by kernel_rfl) (by kernel_rfl) (fun _ _ _ h => h) (Or.inl ⟨by kernel_rfl, fun w' hw' => by clear hw'; go_simp⟩) hH ?_
              simp only [Act.put]
              refine wpAnyH_take (i := 1) (v := .bool false) rfl (by kernel_rfl) (by kernel_rfl) (by kernel_rfl) (fun _ _ _ h => h) (Or.inl ⟨by kernel_rfl, fun w' hw' => by clear hw'; go_simp⟩) hH ?_
              simp only [Act.put]
              refine wpAnyH_take (i := 2) (v := .bool false) rfl (by kernel_rfl) (by kernel_rfl) (by kernel_rfl) (fun _ _ _ h => h) (Or.inl ⟨by kernel_rfl, fun w' hw' => by clear hw'; go_simp⟩) hH ?_
              simp only [Act.put]
              refine wpAnyH_take (i := 3) (v := .agg X.toArray) rfl (by kernel_rfl) (by kernel_rfl) (by kernel_rfl) (fun _ _ _ h => h) (yieldsIf_load_mid (by kernel_rfl) 37 (.tmp 16) rfl w5.heap.size 0 (by kernel_rfl) X _ (fun W hW => HG16.out W hW) Try.underlying37 rfl (by rw [HC5.out]; exact HZ.out)) hH ?_
              simp only [Act.put]
              refine wpAnyH_take (i := 4) (v := .slice (some ⟨ga, oa, none⟩) nt c9) rfl (by kernel_rfl) (by kernel_rfl) (by kernel_rfl) (fun _ _ _ h => h) (Or.inl ⟨by kernel_rfl, fun w' hw' => by clear hw'; go_simp⟩) hH ?_
              simp only [Act.put]
              refine wpAnyH_take (i := 5) (v := .int .i64 (i : Int)) rfl (by kernel_rfl) (by kernel_rfl) (by kernel_rfl) (fun _ _ _ h => h) (Or.inl ⟨by kernel_rfl, fun w' hw' => by clear hw'; go_simp⟩) hH ?_
              simp only [Act.put]
              refine wpAnyH_take (i := 6) (v := .pointer (some ⟨ga, oa + i * 5, none⟩)) rfl (by kernel_rfl) (by kernel_rfl) (by kernel_rfl) (fun _ _ _ h => h) (Or.inl ⟨by kernel_rfl, fun w' hw' => by clear hw'; go_simp⟩) hH ?_
              simp only [Act.put]
              refine wpAnyH_take (i := 7) (v := .agg X.toArray) rfl (by kernel_rfl) (by kernel_rfl) (by kernel_rfl) (fun _ _ _ h => h) (yieldsIf_load_mid (by kernel_rfl) 37 (.tmp 134) rfl ga (oa + i * 5) (by kernel_rfl) X _ (fun W hW => HG9.out W hW) Try.underlying37 rfl (by rw [HC5.out]; exact HZ.out)) hH ?_
              simp only [Act.put]
              refine wpAnyH_ready (rs := [8]) (by kernel_rfl) (by simp) ?_
              refine AllReadyH.cons rfl (fun K hK => ?_) AllReadyH.nil
              rw [if_pos (by kernel_rfl)]
              go_simp
              refine hK.out _ _ (hH) (fun hH => ?_)
              clear hK K
              try simp only [Act.put]
              refine wpAnyH_ready (rs := [9]) (by kernel_rfl) (by simp) ?_
              refine AllReadyH.cons rfl (fun K hK => ?_) AllReadyH.nil
              go_simp
              refine hK.out _ _ (hH) (fun hH => ?_)
              clear hK K
              try simp only [Act.put]
              refine wpAnyH_done (by kernel_rfl) ?_ _
              try simp only [Act.put]
              go_wp2_with fail
              exact ⟨⟨i + 1, by omega, by go_num, HAR.out.below (HB6.out.trans (Below.mono hH HB6.out.size))⟩, by simp [intOf]; omega⟩
          · obtain rfl : i = nt := by omega
            have q1 := HF1.out
            have q2 := HF2.out
            go_wp2_with fail
            go_ret
            exact ⟨rfl, HAR.out.frame⟩
    · have HT : Hid (Sk w 54 p (playN XS) wr) := hid (by rw [← HEND2.out k (by omega) hk60]; exact HSR.out)
      have hi1 : ¬ (k : Int) < (n : Int) := by omega
      clear HSR HST HEND HEND2
      generalize playN XS = T at *
      have HL1 : Hid True := hid trivial
      go_wp2_with (first
        | (go_at_call 15; have tok := HL1.out; refine (HT.out.listed).mono ?_; intro e w3 hh; obtain ⟨A9, c9, rfl, hc9, hr9, hx, hn9⟩ := hh; rw [HNT.out]; have HAK := hid (HT.out.list hr9 hx hn9); have HC9 := hid (by rw [HNT.out] at hc9; exact hc9 : nt ≤ c9); clear hx hr9 hc9 hn9 tok HL1 HT)
        | (go_at_call 18; refine (HAK.out.call (fun fp hk => HOP.out p fp _ hk)).mono ?_; rintro e w4 ⟨rfl, hx⟩; have HAU := hid hx; clear hx HAK)
        | (go_at_call 15; refine (HAU.out.fst.listed).mono ?_; intro e w5 hh; obtain ⟨A10, c10, rfl, -, -, hx, -⟩ := hh; rw [HNU.out]; replace HAU := hid (HAU.out.below hx); clear hx)
        | (go_at_call 12; refine (HLK.out _ _ HAU.out.fst).mono ?_; rintro e w6 ⟨rfl, hx⟩; replace HAU := hid (HAU.out.below hx); clear hx)
        | (refine wpl_store_st rfl (.tmp 13) (.tmp 70) rfl HZ.out w6.heap.size ss0.cells (Ss.cells (fresh c o)) rfl rfl (Row.new _ _ _) ?_ (hid rfl) (hid rfl) (hid rfl); intro w7 hr7 hg7; have hb7 : Below w6.heap.size w6 w7 := ((Below.refl _ _).alloc (Nat.le_refl _) _).trans (below_grown hg7 (Nat.le_refl _) (by simp)); replace HAU := hid (HAU.out.below hb7); have HR7 := hid hr7; clear hb7 hg7 hr7)
        | (refine wpl_load_want rfl 37 (.tmp 13) rfl w6.heap.size rfl 37 (Ss.cells (fresh c o)).toArray (0, 0) _ HR7.out.arr' Try.underlying37 rfl HZ.out ?_)
        | (refine wpl_nes rfl (fresh c o) (.tmp 75) (.tmp 79) _ rfl rfl rfl ?_))
      clear HR7
      go_loopw [15] (fun iv wr => ∃ i : Nat, i ≤ nt ∧ iv = .int .i64 (i : Int) ∧ Ak w 54 p U A9 (rows Ss.cells T) wr) (fun iv _ => nt - (intOf iv).toNat)
      case atStart => exact ⟨0, by omega, rfl, HAU.out⟩
      case round =>
        obtain ⟨i, hi, rfl, hak⟩ := hrel
        have HAR := hid hak
        clear hak
        by_cases hlt : i < nt
        · have hil : i < T.length := by rw [HNT.out]; exact hlt
          obtain ⟨ga, oa, rfl⟩ := shape_of HAR.out.rd Ss.len (by decide) (by omega)
          have HRD := hid HAR.out.rd
          have HRW := hid (fun W (hW : Below wr.heap.size wr W) => (HRD.out.below hW (Nat.le_refl _)).range Ss.len i hil)
          have hrw := HRW.out wr (Below.refl _ _)
          have hc0 := hrw 0 _ rfl
          rw [Nat.add_zero] at hc0
          have hi0 : (0 : Int) ≤ (i : Int) := by omega
          have hi1 : (i : Int) < (nt : Int) := by omega
          have HXC0 : Hid (∀ W, Below wr.heap.size wr W → W.cell? ⟨ga, oa + i * 5, none⟩ = some (.int .i64 T[i].c)) := hid fun W hW => by
            have h := HRW.out W hW 0 _ rfl
            rw [Nat.add_zero] at h
            exact h
          clear hrw
          by_cases hxc : T[i].c = gn
          · obtain ⟨f1, f2, f3⟩ := HE.out i hil hxc
            have HLI : Hid (∀ W, Sk w 54 p U W → Calls Try.prog 12 #[.pointer (some ⟨p, 0, none⟩), .int .i64 gn] W (LK W ss0 false)) := hid fun W h => by
              have := looked_sk h T[i].c
              rw [f1.1, f1.2, hxc] at this
              exact this
            have HOMIN := hid f3
            have HCO := hid (fun k (hk : k < T.length) W (hW : Below wr.heap.size wr W) => (HRD.out.below hW (Nat.le_refl _)).range Ss.len k hk 3 _ rfl)
            rw [hxc] at hc0 HXC0
            have q1 : (gn == gn) = true := beq_iff_eq.2 rfl
            have q3 : ¬ (nt : Int) < 3 := by have := HE2.out i hil hxc; omega
            obtain ⟨oi, hoi⟩ : ∃ oi, T[i].o = oi := ⟨_, rfl⟩
            have HCOI := hid (HCO.out i hil)
            have HOI := hid (fun k (hk : k < T.length) => HOMIN.out k hk)
            have HOIE := hid hoi
            clear f1 f2 f3 hxc hoi
            go_wp2_with (first
              | (go_at_call 12; refine (HLI.out _ HAR.out.fst).mono ?_; rintro e w5 ⟨rfl, hx⟩; have HB5 := hid hx; clear hx)
              | (refine wpl_store_st rfl (.tmp 16) (.tmp 96) rfl HZ.out w5.heap.size ss0.cells ss0.cells rfl rfl (Row.new _ _ _) ?_ (hid rfl) (hid rfl) (hid rfl); intro w6 hr6 hg6; have hb6 : Below w5.heap.size w5 w6 := ((Below.refl _ _).alloc (Nat.le_refl _) _).trans (below_grown hg6 (Nat.le_refl _) (by simp)); have HB6 := hid (HB5.out.trans (hb6.mono HB5.out.size)); have hc6 := HXC0.out _ HB6.out; clear hb6 hg6 hr6))
            clear hc6 hc0
            go_loopw [18] (fun kv wq => ∃ k : Nat, k ≤ nt ∧ kv = .int .i64 (k : Int) ∧ Below wr.heap.size wr wq) (fun kv _ => nt - (intOf kv).toNat)
            case atStart => exact ⟨0, by omega, rfl, HB6.out⟩
            case round =>
              obtain ⟨k, hk, rfl, hbq⟩ := hrel
              have HBQ := hid hbq
              by_cases hkt : k < nt
              · have hkl : k < T.length := by rw [HNT.out]; exact hkt
                have hck := HCO.out k hkl wr hbq
                have hci := HCOI.out wr hbq
                have hdk := HOI.out k hkl
                have hd : decide (T[k].o < T[i].o) = false := decide_eq_false (by omega)
                generalize T[k].o = ok at *
                generalize T[i].o = oi2 at *
                have hk0 : (0 : Int) ≤ (k : Int) := by omega
                have hk1 : (k : Int) < (nt : Int) := by omega
                clear hbq hdk
                go_wp2_with fail
                go_quiet (fail)
                go_wp2_with fail
                exact ⟨⟨k + 1, by omega, by go_num, below_drewN HBQ.out _⟩, by simp [intOf]; omega⟩
              · obtain rfl : k = nt := by omega
                clear hbq
                go_wp2_with fail
                exact ⟨⟨i + 1, by omega, by go_num, HAR.out.below HBQ.out⟩, by simp [intOf]; omega⟩
          · obtain ⟨f1, f2⟩ := HNE.out i hil hxc
            have HLI : Hid (∀ W, Sk w 54 p U W → Calls Try.prog 12 #[.pointer (some ⟨p, 0, none⟩), .int .i64 T[i].c] W (LK W T[i] true)) := hid fun W h => by
              have := looked_sk h T[i].c
              rw [f1, f2] at this
              exact this
            unfold LK at HLI
            have hEQ := eqSs T[i]
            have HC5 : Hid ((Ss.cells T[i]).length = 5) := hid (Ss.len _)
            have HC1 : Hid ((Ss.cells T[i]).all (·.oneCell') = true) := hid (Ss.one _)
            have q1 : (T[i].c == gn) = false := beq_eq_false_iff_ne.2 hxc
            generalize T[i].c = xc at *
            generalize Ss.cells T[i] = X at *
            clear f1 f2 hxc
            go_wp2_with (first
              | (go_at_call 12; refine (HLI.out _ HAR.out.fst).mono ?_; rintro e w5 ⟨rfl, hx⟩; have HB5 := hid hx; clear hx)
              | (refine wpl_store_st rfl (.tmp 16) (.tmp 96) rfl HZ.out w5.heap.size ss0.cells X rfl rfl (Row.new _ _ _) ?_ (hid rfl) (hid HC5.out) (hid HC1.out); intro w6 hr6 hg6; have hb6 : Below w5.heap.size w5 w6 := ((Below.refl _ _).alloc (Nat.le_refl _) _).trans (below_grown hg6 (Nat.le_refl _) (by simp)); have HB6 := hid (HB5.out.trans (hb6.mono HB5.out.size)); have HR6 := hid hr6; have hc6 := HXC0.out _ HB6.out; clear hb6 hg6 hr6))
            have HG16 : Hid (∀ W, Below w6.heap.size w6 W → W.rangeAt w5.heap.size 0 X) := hid fun W hW j u hu => by rw [Nat.zero_add]; exact (HR6.out.below hW HR6.out.lt).at_ j u hu
            have HG9 : Hid (∀ W, Below w6.heap.size w6 W → W.rangeAt ga (oa + i * 5) X) := hid fun W hW => HRW.out W (HB6.out.trans (hW.mono HB6.out.size))
            clear hc6 hc0
            have hEG := egSs
            refine wp_region_held_drew (S := fun w' => Below w6.heap.size w6 w') (by kernel_rfl) (Below.refl _ _).drew (fun hH => ?_)
            refine wpAnyH_take (i := 0) (v := .bool true) rfl (by kernel_rfl) (by kernel_rfl) (by kernel_rfl) (fun _ _ _ h => h) (Or.inl ⟨by kernel_rfl, fun w' hw' => by clear hw'; go_simp⟩) hH ?_
            simp only [Act.put]
            refine wpAnyH_take (i := 1) (v := .bool false) rfl (by kernel_rfl) (by kernel_rfl) (by kernel_rfl) (fun _ _ _ h => h) (Or.inl ⟨by kernel_rfl, fun w' hw' => by clear hw'; go_simp⟩) hH ?_
            simp only [Act.put]
            refine wpAnyH_take (i := 2) (v := .bool false) rfl (by kernel_rfl) (by kernel_rfl) (by kernel_rfl) (fun _ _ _ h => h) (Or.inl ⟨by kernel_rfl, fun w' hw' => by clear hw'; go_simp⟩) hH ?_
            simp only [Act.put]
            refine wpAnyH_take (i := 3) (v := .agg X.toArray) rfl (by kernel_rfl) (by kernel_rfl) (by kernel_rfl) (fun _ _ _ h => h) (yieldsIf_load_mid (by kernel_rfl) 37 (.tmp 16) rfl w5.heap.size 0 (by kernel_rfl) X _ (fun W hW => HG16.out W hW) Try.underlying37 rfl (by rw [HC5.out]; exact HZ.out)) hH ?_
            simp only [Act.put]
            refine wpAnyH_take (i := 4) (v := .slice (some ⟨ga, oa, none⟩) nt c9) rfl (by kernel_rfl) (by kernel_rfl) (by kernel_rfl) (fun _ _ _ h => h) (Or.inl ⟨by kernel_rfl, fun w' hw' => by clear hw'; go_simp⟩) hH ?_
            simp only [Act.put]
            refine wpAnyH_take (i := 5) (v := .int .i64 (i : Int)) rfl (by kernel_rfl) (by kernel_rfl) (by kernel_rfl) (fun _ _ _ h => h) (Or.inl ⟨by kernel_rfl, fun w' hw' => by clear hw'; go_simp⟩) hH ?_
            simp only [Act.put]
            refine wpAnyH_take (i := 6) (v := .pointer (some ⟨ga, oa + i * 5, none⟩)) rfl (by kernel_rfl) (by kernel_rfl) (by kernel_rfl) (fun _ _ _ h => h) (Or.inl ⟨by kernel_rfl, fun w' hw' => by clear hw'; go_simp⟩) hH ?_
            simp only [Act.put]
            refine wpAnyH_take (i := 7) (v := .agg X.toArray) rfl (by kernel_rfl) (by kernel_rfl) (by kernel_rfl) (fun _ _ _ h => h) (yieldsIf_load_mid (by kernel_rfl) 37 (.tmp 134) rfl ga (oa + i * 5) (by kernel_rfl) X _ (fun W hW => HG9.out W hW) Try.underlying37 rfl (by rw [HC5.out]; exact HZ.out)) hH ?_
            simp only [Act.put]
            refine wpAnyH_ready (rs := [8]) (by kernel_rfl) (by simp) ?_
            refine AllReadyH.cons rfl (fun K hK => ?_) AllReadyH.nil
            rw [if_pos (by kernel_rfl)]
            go_simp
            refine hK.out _ _ (hH) (fun hH => ?_)
            clear hK K
            try simp only [Act.put]
            refine wpAnyH_ready (rs := [9]) (by kernel_rfl) (by simp) ?_
            refine AllReadyH.cons rfl (fun K hK => ?_) AllReadyH.nil
            go_simp
            refine hK.out _ _ (hH) (fun hH => ?_)
            clear hK K
            try simp only [Act.put]
            refine wpAnyH_done (by kernel_rfl) ?_ _
            try simp only [Act.put]
            go_wp2_with fail
            exact ⟨⟨i + 1, by omega, by go_num, HAR.out.below (HB6.out.trans (Below.mono hH HB6.out.size))⟩, by simp [intOf]; omega⟩
        · obtain rfl : i = nt := by omega
          have q1 := HF1.out
          have q2 := HF2.out
          go_wp2_with fail
          go_ret
          exact ⟨rfl, HAR.out.frame⟩
theorem few_any (A : Option Addr) (XS : List Ab) (n cc : Nat) (c o : Int) (w : World) (hr : Rd w w.heap.size A (rows Ab.cells XS)) (hn : n = XS.length) (hbig : n ≤ 9223372036854775807) : Calls Try.prog 4 #[.slice A n cc, .int .i64 c, .int .i64 o] w (VE w (.bool true)) := by
  by_cases h0 : opnE (playN XS) c o = 0
  · exact few_ok A XS n cc c o w hr hn hbig h0
  · exact few_err A XS n cc c o w hr hn hbig h0
end Go.Proofs.Ytgphijkonmdehaa
