/-
  The walk of the document's Read.
-/
import Derived.Test.YtogchfpecbmocaaRk
import Derived.Test.YtogchfpecbmocaaM14
namespace Go.Proofs.Ytogchfpecbmocaa
open Go.RowKit
set_option maxRecDepth 10000

theorem infoSu : (Try.prog.info? 27).map (fun i => (i.zero, i.size, i.bytes)) = some (some (.agg su0.cells), 17, 136) := by kernel_rfl
theorem SC_one (s : Su) : ∀ u ∈ SC s, u.oneCell' = true := by
  have := cells_one s
  rw [Array.all_eq_true'] at this
  intro u hu
  exact this u (by simpa [SC] using hu)
theorem own_alloc {w : World} {B e size n : Nat} {v : Value} {xs : List Value} (h : w.ownsRow B e size v n xs) (o : Obj) : (w.alloc o).ownsRow B e size v n xs := own_below h ((Below.refl _ _).alloc (Nat.le_refl _) o)
theorem readU_list (S : Sp) (d : Su) (he : ∀ k : Nat, k < 4 → (S.read k).2 = 0) : readU S = if RL S 4 = [] then (su0, 0, 11) else (bst (RL S 4) d (RL S 4).length, cn (RL S 4) d (bst (RL S 4) d (RL S 4).length) (RL S 4).length, 0) := by
  obtain ⟨h0, h⟩ := rdK_list S d he 4 (Nat.le_refl _)
  have e : rdK S 4 = ((rdK S 4).1, (rdK S 4).2.1, 0) := by rw [← h0]
  unfold readU
  rw [h0, if_neg (by simp)]
  rcases h with ⟨h1, h2⟩ | ⟨h1, h2, h3⟩
  · rw [if_pos h1, h2, if_pos (show su0.seq = 0 from rfl)]
  · have hb : SR (rdK S 4).1 := by rw [h2]; exact RL_sr S 4 _ (bst_mem _ d (List.length_pos_iff.2 h1) _ (Nat.le_refl _))
    have : (rdK S 4).1.seq ≠ 0 := by have := hb.1.1; omega
    rw [if_neg h1, if_neg this, e, ← h2, ← h3]
theorem readU_err (S : Sp) (k : Nat) (hk : k < 4) (h0 : ∀ j : Nat, j < k → (S.read j).2 = 0) (he : (S.read k).2 ≠ 0) : readU S = (su0, 0, (S.read k).2) := by
  have h1 : ∀ j, j ≤ k → (rdK S j).2.2 = 0 := by
    intro j
    induction j with
    | zero => intro _; rfl
    | succ j ih =>
      intro hj
      rw [rdK, ih (by omega), h0 j (by omega)]
      simp
  have h2 : rdK S (k + 1) = (su0, 0, (S.read k).2) := by
    rw [rdK, h1 k (Nat.le_refl _), if_neg (by simp), if_pos he]
  have h3 := rdK_stop S (k + 1) (by rw [h2]; exact he) (4 - (k + 1))
  rw [show k + 1 + (4 - (k + 1)) = 4 by omega, h2] at h3
  unfold readU
  rw [h3, if_pos he]
set_option maxHeartbeats 4000000 in
theorem rread_s (q gl gm cl cm : Nat) (vw : Value) (S : Sp) (w : World) (h : HasR w q gl gm cl cm vw S) (hc : S.count ≤ 900000) :
    Calls Try.prog 30 #[dptr q] w (RU w (readU S)) := by
  obtain ⟨i0, hi, hz0, hz1, hz2⟩ := info_parts infoSu
  have HZS := hid superSize
  have HRDA : Hid (∀ W, HasR W q gl gm cl cm vw S → ∀ k : Nat, Calls Try.prog 34 #[.pointer (some ⟨q, 0, none⟩), .int .i64 (k : Int)] W fun e w' => e = .returned (.tuple #[.string ⟨(S.read k).1.toArray⟩, .int .i64 (S.read k).2]) ∧ w' = W) := hid fun W hW k => by
    refine (rread_any q gl gm cl cm vw S k W hW (by omega)).mono ?_
    rintro e w' ⟨rfl, rfl⟩
    exact ⟨rfl, rfl⟩
  have HNX : Hid (∀ (W : World) (X : List Value), Hid (Rd (W.alloc (.cells X.toArray 27)) (W.heap.size + 1) (some ⟨W.heap.size, 0, none⟩) X)) := hid fun W X => hid (Row.rd (e := 27) (by simpa using Row.new W 27 X.toArray) (Nat.lt_succ_self _))
  have HH := hid h
  have HLTT := hid h.lt
  clear h hc
  unfold dptr
  go_enter Try.func30, Try.ntmps30
  go_wp2_with fail
  refine name_wp (fun w1 hw1 => ?_)
  have hr0 : Row w1 w.heap.size 27 su0.cells.toList := by rw [hw1]; exact (Row.new w 27 su0.cells).alloc _
  have hown0 : w1.ownsRow (w.heap.size + 1) 27 17 (.slice (some ⟨w.heap.size + 1, 0, none⟩) 0 0) 0 [] := own_empty (by rw [hw1]; exact alloc2_new _ _ _) (Nat.le_refl _)
  have hbw : Below w.heap.size w w1 := by rw [hw1]; exact ((Below.refl _ _).alloc (Nat.le_refl _) _).alloc (by simp) _
  clear hw1
  have HR0 := hid hr0
  have HO0 := hid hown0
  have HBW := hid hbw
  have HLT : Hid (w.heap.size < w1.heap.size) := hid hr0.lt
  clear hr0 hown0 hbw
  go_loopw [5, 6] (fun v i wr => ∃ k : Nat, k ≤ 4 ∧ i = .int .i64 k ∧ Hid (∀ j : Nat, j < k → (S.read j).2 = 0) ∧ wr.ownsRow (w.heap.size + 1) 27 17 v (RL S k).length (rows SC (RL S k)) ∧ Below (w.heap.size + 1) w1 wr) (fun _ i _ => 4 - (intOf i).toNat)
  case atStart => exact ⟨0, by omega, rfl, hid (fun j hj => by omega), HO0.out, Below.refl _ _⟩
  case round =>
    obtain ⟨k, hk, rfl, hst, hown, hbe⟩ := hrel
    have HBE := hid hbe
    have HOW := hid hown
    have HLL := hid (RL_le S k)
    obtain ⟨A, c, rfl, hnc, -⟩ := own_rd hown
    clear hown
    by_cases hlt : k < 4
    · have HRD := hid (HRDA.out wr (HH.out.below (HBW.out.trans (hbe.mono (by omega)))) k)
      have HST2 := hid (readU_err S k hlt hst.out)
      clear hbe
      by_cases herr : (S.read k).2 = 0
      · have HS1 : Hid (∀ j : Nat, j < k + 1 → (S.read j).2 = 0) := hid fun j hj => by
          by_cases e : j = k
          · rw [e]; exact herr
          · exact hst.out j (by omega)
        have hrl : RL S (k + 1) = if SR (hasU (S.read k).1) then RL S k ++ [hasU (S.read k).1] else RL S k := rfl
        have HHS := hid (fun W => rhas_any (S.read k).1 W)
        rw [herr] at HRD
        generalize hasU (S.read k).1 = x at *
        generalize (S.read k).1 = t at *
        generalize RL S k = l at *
        have hll := HLL.out
        clear herr HST2 hst
        by_cases hx : SR x
        · rw [if_pos hx] at hrl
          rw [decide_eq_true hx] at HHS
          have HRL := hid hrl
          clear hrl hx
          go_wp2_with (first
            | (go_at_call 48; refine (HHS.out _).mono ?_; rintro e w2 ⟨rfl, hb2⟩; have bb := HBE.out.trans (hb2.mono (by have := HBE.out.size; have := HLT.out; omega)); have ow := own_below HOW.out hb2; clear hb2)
            | (go_at_call 34; refine HRD.out.mono ?_; rintro e wq ⟨rfl, rfl⟩)
            | (refine wpl_store_st rfl (.tmp 9) (.tmp 33) rfl (n := 17) HZS.out w2.heap.size su0.cells x.cells rfl rfl (Row.new _ _ _) ?_ (hid rfl) (hid rfl) (cells_one _); intro w3 HR3 HB3; have hbq : Below w2.heap.size w2 w3 := ((Below.refl w2.heap.size w2).alloc (Nat.le_refl _) (.cells su0.cells 27)).trans (below_grown HB3 (Nat.le_refl _) (by simp)); have bb3 := bb.trans (hbq.mono (by have := bb.size; have := HLT.out; omega)); have ow3 := own_below ow hbq; clear bb ow hbq HB3)
            | (refine wpl_load_want rfl 27 (.tmp 9) rfl w2.heap.size rfl 27 x.cells (0, 0) _ HR3.arr Try.underlying27 rfl HZS.out ?_)
            | (refine wpl_slice1 rfl 102 27 (.tmp 37) rfl i0 _ 17 Try.underlying102 hi hz0 hz1 (by decide) (by decide) (SC x) rfl rfl ?_)
            | (refine wpl_append rfl (.tmp 36) (.tmp 38) 102 rfl (w.heap.size + 1) 27 i0 _ 17 136 Try.underlying102 hi hz0 hz1 hz2 rfl (by omega) (.slice A l.length c) l.length _ rfl (own_alloc ow3 _) (w3.heap.size + 1) (some ⟨w3.heap.size, 0, none⟩) 1 1 (SC x) rfl ?_ (HNX.out w3 (SC x)) (hid rfl) (hid (SC_one x)) (hid (le_maxLen (by omega))) (hid (by omega)) (hid (by have := bb3.size; have := HLT.out; simp; omega)); intro v6 w6 hown6 hb6 hg6; have HO6 := hid hown6; have HB6 := hid ((bb3.alloc (by have := bb3.size; have := HLT.out; omega) (.cells (SC x).toArray 27)).trans hb6); clear hown6 hb6 hg6))
          go_roundw
          case rel => exact ⟨k + 1, by omega, by go_num, HS1, by rw [HRL.out, rows_app, rows1, List.length_append]; exact HO6.out, HB6.out⟩
          case measure => simp [intOf]; omega
        · rw [if_neg hx] at hrl
          rw [decide_eq_false hx] at HHS
          have HRL := hid hrl
          clear hrl hx
          go_wp2_with (first
            | (go_at_call 48; refine (HHS.out _).mono ?_; rintro e w2 ⟨rfl, hb2⟩; have bb := HBE.out.trans (hb2.mono (by have := HBE.out.size; have := HLT.out; omega)); have ow := own_below HOW.out hb2; clear hb2)
            | (go_at_call 34; refine HRD.out.mono ?_; rintro e wq ⟨rfl, rfl⟩)
            | (refine wpl_store_st rfl (.tmp 9) (.tmp 33) rfl (n := 17) HZS.out w2.heap.size su0.cells x.cells rfl rfl (Row.new _ _ _) ?_ (hid rfl) (hid rfl) (cells_one _); intro w3 HR3 HB3; have hbq : Below w2.heap.size w2 w3 := ((Below.refl w2.heap.size w2).alloc (Nat.le_refl _) (.cells su0.cells 27)).trans (below_grown HB3 (Nat.le_refl _) (by simp)); have bb3 := bb.trans (hbq.mono (by have := bb.size; have := HLT.out; omega)); have ow3 := own_below ow hbq; clear bb ow hbq HB3))
          go_roundw
          case rel => exact ⟨k + 1, by omega, by go_num, HS1, by rw [HRL.out]; exact ow3, bb3⟩
          case measure => simp [intOf]; omega
      · have HRES := hid (HST2.out herr)
        have HX := hid (show ((S.read k).2 != 0) = true by simpa using herr)
        clear herr HST2 hst
        generalize (S.read k).2 = y at *
        generalize (S.read k).1 = t at *
        have hx2 := HX.out
        go_wp2_with (first
          | (go_at_call 34; refine HRD.out.mono ?_; rintro e wq ⟨rfl, rfl⟩)
          | (refine wpl_store_st rfl (.tmp 2) (.tmp 28) rfl (n := 17) HZS.out w.heap.size su0.cells su0.cells rfl rfl (HR0.out.below HBE.out (by omega)) ?_ (hid rfl) (hid rfl) (cells_one _); intro w4 HR4 HB4))
        exact bodyPost_ret (v := .tuple #[.agg su0.cells, .int .i64 0, .int .i64 y]) (results_cell2 rfl _ _ w.heap.size 27 su0.cells (0, 0) _ (.int .i64 0) (.int .i64 y) rfl rfl rfl HR4.arr Try.underlying27 rfl HZS.out) rfl
          ⟨by rw [HRES.out]; rfl, (HBW.out.trans (HBE.out.mono (by omega))).trans (below_grown HB4 (Nat.le_refl _) (HBW.out.trans (HBE.out.mono (by omega))).size)⟩
    · obtain rfl : k = 4 := by omega
      have hres := readU_list S su0 hst.out
      generalize readU S = RES at *
      generalize RL S 4 = l at *
      have HBX : Hid (Below w.heap.size w wr) := hid (HBW.out.trans (hbe.mono (by omega)))
      have hrr := HR0.out.below hbe (by omega)
      have HRR := hid hrr
      clear hbe hst hrr
      by_cases hl : l = []
      · rw [if_pos hl] at hres
        have HRES := hid hres
        subst hl
        clear hres
        go_wp2_with (refine wpl_store_st rfl (.tmp 2) (.tmp 43) rfl (n := 17) HZS.out w.heap.size su0.cells su0.cells rfl rfl HRR.out ?_ (hid rfl) (hid rfl) (cells_one _); intro w4 HR4 HB4)
        exact bodyPost_ret (v := .tuple #[.agg su0.cells, .int .i64 0, .int .i64 11]) (results_cell2 rfl _ _ w.heap.size 27 su0.cells (0, 0) _ (.int .i64 0) (.int .i64 11) rfl rfl rfl HR4.arr Try.underlying27 rfl HZS.out) rfl
          ⟨by rw [HRES.out]; rfl, HBX.out.trans (below_grown HB4 (Nat.le_refl _) HBX.out.size)⟩
      · rw [if_neg hl] at hres
        have HRES := hid hres
        obtain ⟨A', c', ea, -, hrd⟩ := own_rd HOW.out
        cases ea
        have hpos : 0 < l.length := List.length_pos_iff.2 hl
        obtain ⟨g, o, rfl⟩ := shape_of hrd SC_len (by omega) hpos
        have HRD : Hid (∀ W, Below wr.heap.size wr W → Rd W wr.heap.size (some ⟨g, o, none⟩) (rows SC l)) := hid fun W hW => hrd.below hW (Nat.le_refl _)
        obtain ⟨n, hn⟩ : ∃ n, n = l.length := ⟨_, rfl⟩
        have hn4 : n ≤ 4 := by rw [hn]; exact HLL.out
        rw [← hn] at hpos hnc ⊢
        have HN := hid hn
        have hneq : ((n : Int) == 0) = false := by simp; omega
        clear hres hl hrd hn HOW HRDA HNX HH HLTT HR0 HO0 HBW
        obtain ⟨wL, rfl⟩ : ∃ W, W = wr := ⟨wr, rfl⟩
        have HRG : Hid (∀ k, k < n → ∀ W, Below wL.heap.size wL W → W.rangeAt g (o + k * 17) (SC (l.getD k su0))) := hid fun k hk W hW => by
          have hk' : k < l.length := by rw [← HN.out]; exact hk
          have := range_of (HRD.out W hW) SC_len (k := k) hk'
          rw [List.getD_eq_getElem?_getD, List.getElem?_eq_getElem hk']
          exact this
        have HRG0 : Hid (wL.rangeAt g o (SC (l.getD 0 su0))) := hid (by
          have := HRG.out 0 hpos wL (Below.refl _ _)
          rwa [Nat.zero_mul, Nat.add_zero] at this)
        have hb0 : l.getD 0 su0 = bst l su0 0 := rfl
        rw [hb0] at HRG0
        clear hb0
        generalize hb : bst l su0 0 = b0 at HRG0
        have HB0 := hid hb
        clear hb
        have hposi : (0 : Int) < (n : Int) := by omega
        go_wp2_with (first
          | (refine wpList_load_mid rfl 27 (.tmp 45) rfl g o rfl (SC b0) _ HRG0.out Try.underlying27 rfl (by rw [SC_len]; exact HZS.out) ?_)
          | (refine wpl_store_st rfl (.tmp 11) (.tmp 46) rfl (n := 17) HZS.out wL.heap.size su0.cells b0.cells rfl rfl (Row.new _ _ _) ?_ (hid rfl) (hid rfl) (cells_one _); intro w5 HR5 HB5; have hb5 : Below wL.heap.size wL w5 := (((Below.refl wL.heap.size wL).alloc (Nat.le_refl _) (.cells su0.cells 27)).trans (below_grown HB5 (Nat.le_refl _) (by simp))); clear HB5))
        have HR5' := hid HR5
        have HB5' := hid hb5
        clear HR5 hb5
        go_loopw [12] (fun i wz => ∃ k : Nat, k ≤ n ∧ i = .int .i64 k ∧ Row wz wL.heap.size 27 (bst l su0 k).cells.toList ∧ Below wL.heap.size wL wz) (fun i _ => n - (intOf i).toNat)
        case atStart => exact ⟨0, Nat.zero_le _, rfl, by rw [HB0.out]; exact HR5'.out, HB5'.out⟩
        case round =>
          obtain ⟨k, hkn, rfl, hrw, hbz⟩ := hrel
          have HRZ := hid hrw
          have HBZ := hid hbz
          have hsz := hrw.lt
          clear hrw hbz
          by_cases hkl : k < n
          · have HRK := hid (HRG.out k hkl)
            have hbk : bst l su0 (k + 1) = if (bst l su0 k).seq < (l.getD k su0).seq then l.getD k su0 else bst l su0 k := rfl
            generalize bst l su0 k = b at *
            generalize l.getD k su0 = x at *
            have HCX : Hid (∀ W, Below wL.heap.size wL W → W.cell? ⟨g, o + k * 17, none⟩ = some (.int .i64 x.seq)) := hid fun W hW => HRK.out W hW 0 _ rfl
            have h0k : (0 : Int) ≤ (k : Int) := by omega
            have hki : (k : Int) < (n : Int) := by omega
            by_cases hgt : b.seq < x.seq
            · rw [if_pos hgt] at hbk
              have HBK := hid hbk
              clear hbk
              go_wp2_with fail
              refine wp_region_held_drew (S := fun W => Below wL.heap.size wL W ∧ Row W wL.heap.size 27 b.cells.toList) (by kernel_rfl) (⟨HBZ.out.drew, HRZ.out.drew⟩) (fun hH => ?_)
              refine wpAnyH_take (i := 0) (v := .slice (some ⟨g, o, none⟩) n c) rfl (by kernel_rfl) (by kernel_rfl) (by kernel_rfl) (fun _ _ _ h => h) (Or.inl ⟨by rfl, fun w' hw' => by clear hw'; go_simp⟩) hH ?_
              simp only [Act.put]
              refine wpAnyH_take (i := 1) (v := .int .i64 (k : Int)) rfl (by kernel_rfl) (by kernel_rfl) (by kernel_rfl) (fun _ _ _ h => h) (Or.inl ⟨by rfl, fun w' hw' => by clear hw'; go_simp⟩) hH ?_
              simp only [Act.put]
              refine wpAnyH_take (i := 2) (v := .pointer (some ⟨g, o + k * 17, none⟩)) rfl (by kernel_rfl) (by kernel_rfl) (by kernel_rfl) (fun _ _ _ h => h) (Or.inl ⟨by rfl, fun w' hw' => by clear hw'; go_simp⟩) hH ?_
              simp only [Act.put]
              refine wpAnyH_take (i := 3) (v := .pointer (some ⟨g, o + k * 17, none⟩)) rfl (by kernel_rfl) (by kernel_rfl) (by kernel_rfl) (fun _ _ _ h => h) (Or.inl ⟨by rfl, fun w' hw' => by clear hw'; go_simp⟩) hH ?_
              simp only [Act.put]
              refine wpAnyH_take (i := 4) (v := .int .i64 x.seq) rfl (by kernel_rfl) (by kernel_rfl) (by kernel_rfl) (fun _ _ _ h => h) (Or.inl ⟨by rfl, fun w' hw' => by have h := HCX.out w' hw'.1; go_simp⟩) hH ?_
              simp only [Act.put]
              refine wpAnyH_take (i := 5) (v := .pointer (some ⟨wL.heap.size, 0, none⟩)) rfl (by kernel_rfl) (by kernel_rfl) (by kernel_rfl) (fun _ _ _ h => h) (Or.inl ⟨by rfl, fun w' hw' => by clear hw'; go_simp⟩) hH ?_
              simp only [Act.put]
              refine wpAnyH_take (i := 6) (v := .int .i64 b.seq) rfl (by kernel_rfl) (by kernel_rfl) (by kernel_rfl) (fun _ _ _ h => h) (Or.inl ⟨by rfl, fun w' hw' => by have h := hw'.2.at_ 0 (.int .i64 b.seq) rfl; go_simp⟩) hH ?_
              simp only [Act.put]
              refine wpAnyH_ready (rs := [7]) (by kernel_rfl) (by simp) ?_
              refine AllReadyH.cons rfl (fun K hK => ?_) AllReadyH.nil
              go_simp
              refine hK.out _ _ (hH) (fun hH => ?_)
              clear hK K
              try simp only [Act.put]
              refine wpAnyH_done (by kernel_rfl) ?_ _
              try simp only [Act.put]
              go_wp2_with (first
                | (refine wpList_load_mid rfl 27 (.tmp 63) rfl g (o + k * 17) rfl (SC x) _ (HRK.out _ hH.1) Try.underlying27 rfl (by rw [SC_len]; exact HZS.out) ?_)
                | (refine wpl_store_st rfl (.tmp 11) (.tmp 64) rfl (n := 17) HZS.out wL.heap.size b.cells x.cells rfl rfl hH.2 ?_ (hid rfl) (hid rfl) (cells_one _); intro w6 HR6 HB6))
              exact ⟨⟨k + 1, by omega, by go_num, by rw [HBK.out]; exact HR6, hH.1.trans (below_grown HB6 (Nat.le_refl _) (by have := hH.1.size; omega))⟩, by simp [intOf]; omega⟩
            · rw [if_neg hgt] at hbk
              have HBK := hid hbk
              clear hbk
              go_wp2_with fail
              refine wp_region_held_drew (S := fun W => Below wL.heap.size wL W ∧ Row W wL.heap.size 27 b.cells.toList) (by kernel_rfl) (⟨HBZ.out.drew, HRZ.out.drew⟩) (fun hH => ?_)
              refine wpAnyH_take (i := 0) (v := .slice (some ⟨g, o, none⟩) n c) rfl (by kernel_rfl) (by kernel_rfl) (by kernel_rfl) (fun _ _ _ h => h) (Or.inl ⟨by rfl, fun w' hw' => by clear hw'; go_simp⟩) hH ?_
              simp only [Act.put]
              refine wpAnyH_take (i := 1) (v := .int .i64 (k : Int)) rfl (by kernel_rfl) (by kernel_rfl) (by kernel_rfl) (fun _ _ _ h => h) (Or.inl ⟨by rfl, fun w' hw' => by clear hw'; go_simp⟩) hH ?_
              simp only [Act.put]
              refine wpAnyH_take (i := 2) (v := .pointer (some ⟨g, o + k * 17, none⟩)) rfl (by kernel_rfl) (by kernel_rfl) (by kernel_rfl) (fun _ _ _ h => h) (Or.inl ⟨by rfl, fun w' hw' => by clear hw'; go_simp⟩) hH ?_
              simp only [Act.put]
              refine wpAnyH_take (i := 3) (v := .pointer (some ⟨g, o + k * 17, none⟩)) rfl (by kernel_rfl) (by kernel_rfl) (by kernel_rfl) (fun _ _ _ h => h) (Or.inl ⟨by rfl, fun w' hw' => by clear hw'; go_simp⟩) hH ?_
              simp only [Act.put]
              refine wpAnyH_take (i := 4) (v := .int .i64 x.seq) rfl (by kernel_rfl) (by kernel_rfl) (by kernel_rfl) (fun _ _ _ h => h) (Or.inl ⟨by rfl, fun w' hw' => by have h := HCX.out w' hw'.1; go_simp⟩) hH ?_
              simp only [Act.put]
              refine wpAnyH_take (i := 5) (v := .pointer (some ⟨wL.heap.size, 0, none⟩)) rfl (by kernel_rfl) (by kernel_rfl) (by kernel_rfl) (fun _ _ _ h => h) (Or.inl ⟨by rfl, fun w' hw' => by clear hw'; go_simp⟩) hH ?_
              simp only [Act.put]
              refine wpAnyH_take (i := 6) (v := .int .i64 b.seq) rfl (by kernel_rfl) (by kernel_rfl) (by kernel_rfl) (fun _ _ _ h => h) (Or.inl ⟨by rfl, fun w' hw' => by have h := hw'.2.at_ 0 (.int .i64 b.seq) rfl; go_simp⟩) hH ?_
              simp only [Act.put]
              refine wpAnyH_ready (rs := [7]) (by kernel_rfl) (by simp) ?_
              refine AllReadyH.cons rfl (fun K hK => ?_) AllReadyH.nil
              go_simp
              refine hK.out _ _ (hH) (fun hH => ?_)
              clear hK K
              try simp only [Act.put]
              refine wpAnyH_done (by kernel_rfl) ?_ _
              try simp only [Act.put]
              go_wp2_with fail
              exact ⟨⟨k + 1, by omega, by go_num, by rw [HBK.out]; exact hH.2, hH.1⟩, by simp [intOf]; omega⟩
          · obtain rfl : k = n := by omega
            have hres2 := HRES.out
            rw [← HN.out] at hres2
            have HRES2 := hid hres2
            clear hres2
            generalize bst l su0 k = b at *
            have HCN := hid (cn_le l su0 b)
            have hrr2 := HRR.out.below HBZ.out
            clear hkn
            go_wp2_with fail
            go_loopw [13, 14] (fun mv i wy => ∃ j m : Nat, j ≤ k ∧ i = .int .i64 j ∧ mv = .int .i64 m ∧ Hid (m = cn l su0 b j) ∧ Row wy wL.heap.size 27 b.cells.toList ∧ Below wL.heap.size wL wy) (fun _ i _ => k - (intOf i).toNat)
            case atStart => exact ⟨0, 0, Nat.zero_le _, rfl, rfl, hid rfl, HRZ.out, HBZ.out⟩
            case round =>
              obtain ⟨j, m, hjn, rfl, rfl, hm, hrw, hbz⟩ := hrel
              have HRY := hid hrw
              have HBY := hid hbz
              have hsy := hrw.lt
              clear hrw hbz
              by_cases hjl : j < k
              · have HRK := hid (HRG.out j hjl)
                have hcj : cn l su0 b (j + 1) = if l.getD j su0 = b then cn l su0 b j + 1 else cn l su0 b j := rfl
                have hmj : m ≤ j := by rw [hm.out]; exact HCN.out j
                generalize l.getD j su0 = x at *
                have h0k : (0 : Int) ≤ (j : Int) := by omega
                have hki : (j : Int) < (k : Int) := by omega
                by_cases hx : x = b
                · rw [if_pos hx, ← hm.out] at hcj
                  have HCJ := hid hcj
                  have HEQ := hid (show decide (x = b) = true by simp [hx])
                  clear hcj hx
                  go_wp2_with fail
                  refine wp_region_held_drew (S := fun W => Below wL.heap.size wL W ∧ Row W wL.heap.size 27 b.cells.toList) (by kernel_rfl) (⟨HBY.out.drew, HRY.out.drew⟩) (fun hH => ?_)
                  refine wpAnyH_take (i := 0) (v := .slice (some ⟨g, o, none⟩) k c) rfl (by kernel_rfl) (by kernel_rfl) (by kernel_rfl) (fun _ _ _ h => h) (Or.inl ⟨by rfl, fun w' hw' => by clear hw'; go_simp⟩) hH ?_
                  simp only [Act.put]
                  refine wpAnyH_take (i := 1) (v := .int .i64 (j : Int)) rfl (by kernel_rfl) (by kernel_rfl) (by kernel_rfl) (fun _ _ _ h => h) (Or.inl ⟨by rfl, fun w' hw' => by clear hw'; go_simp⟩) hH ?_
                  simp only [Act.put]
                  refine wpAnyH_take (i := 2) (v := .pointer (some ⟨g, o + j * 17, none⟩)) rfl (by kernel_rfl) (by kernel_rfl) (by kernel_rfl) (fun _ _ _ h => h) (Or.inl ⟨by rfl, fun w' hw' => by clear hw'; go_simp⟩) hH ?_
                  simp only [Act.put]
                  refine wpAnyH_take (i := 3) (v := .agg x.cells) rfl (by kernel_rfl) (by kernel_rfl) (by kernel_rfl) (fun _ _ _ h => h) ?_ hH ?_
                  · refine yieldsIf_load_mid ?_ 27 (.tmp 73) ?_ g (o + j * 17) ?_ (SC x) _ (fun W hW => HRK.out W hW.1) Try.underlying27 rfl (by rw [SC_len]; exact HZS.out)
                    all_goals kernel_rfl
                  simp only [Act.put]
                  refine wpAnyH_take (i := 4) (v := .agg b.cells) rfl (by kernel_rfl) (by kernel_rfl) (by kernel_rfl) (fun _ _ _ h => h) ?_ hH ?_
                  · refine yieldsIf_load_mid ?_ 27 (.tmp 11) ?_ wL.heap.size 0 ?_ (Array.toList b.cells) _ (fun W hW => Row.range (hW.2)) Try.underlying27 rfl (by exact (by rw [Array.length_toList, cells_size]; exact HZS.out))
                    all_goals kernel_rfl
                  simp only [Act.put]
                  refine wpAnyH_take (i := 5) (v := .bool true) rfl (by kernel_rfl) (by kernel_rfl) (by kernel_rfl) (fun _ _ _ h => h) (yields_eqsu (by kernel_rfl) x b true HEQ.out (.tmp 74) (.tmp 75) _ rfl (by kernel_rfl) (by kernel_rfl)) hH ?_
                  simp only [Act.put]
                  refine wpAnyH_done (by kernel_rfl) ?_ _
                  try simp only [Act.put]
                  go_simp
                  go_wp2_with fail
                  exact ⟨⟨j + 1, m + 1, by omega, by go_num, by go_num, hid (by rw [HCJ.out]), hH.2, hH.1⟩, by simp [intOf]; omega⟩
                · rw [if_neg hx, ← hm.out] at hcj
                  have HCJ := hid hcj
                  have HEQ := hid (show decide (x = b) = false by simp [hx])
                  clear hcj hx
                  go_wp2_with fail
                  refine wp_region_held_drew (S := fun W => Below wL.heap.size wL W ∧ Row W wL.heap.size 27 b.cells.toList) (by kernel_rfl) (⟨HBY.out.drew, HRY.out.drew⟩) (fun hH => ?_)
                  refine wpAnyH_take (i := 0) (v := .slice (some ⟨g, o, none⟩) k c) rfl (by kernel_rfl) (by kernel_rfl) (by kernel_rfl) (fun _ _ _ h => h) (Or.inl ⟨by rfl, fun w' hw' => by clear hw'; go_simp⟩) hH ?_
                  simp only [Act.put]
                  refine wpAnyH_take (i := 1) (v := .int .i64 (j : Int)) rfl (by kernel_rfl) (by kernel_rfl) (by kernel_rfl) (fun _ _ _ h => h) (Or.inl ⟨by rfl, fun w' hw' => by clear hw'; go_simp⟩) hH ?_
                  simp only [Act.put]
                  refine wpAnyH_take (i := 2) (v := .pointer (some ⟨g, o + j * 17, none⟩)) rfl (by kernel_rfl) (by kernel_rfl) (by kernel_rfl) (fun _ _ _ h => h) (Or.inl ⟨by rfl, fun w' hw' => by clear hw'; go_simp⟩) hH ?_
                  simp only [Act.put]
                  refine wpAnyH_take (i := 3) (v := .agg x.cells) rfl (by kernel_rfl) (by kernel_rfl) (by kernel_rfl) (fun _ _ _ h => h) ?_ hH ?_
                  · refine yieldsIf_load_mid ?_ 27 (.tmp 73) ?_ g (o + j * 17) ?_ (SC x) _ (fun W hW => HRK.out W hW.1) Try.underlying27 rfl (by rw [SC_len]; exact HZS.out)
                    all_goals kernel_rfl
                  simp only [Act.put]
                  refine wpAnyH_take (i := 4) (v := .agg b.cells) rfl (by kernel_rfl) (by kernel_rfl) (by kernel_rfl) (fun _ _ _ h => h) ?_ hH ?_
                  · refine yieldsIf_load_mid ?_ 27 (.tmp 11) ?_ wL.heap.size 0 ?_ (Array.toList b.cells) _ (fun W hW => Row.range (hW.2)) Try.underlying27 rfl (by exact (by rw [Array.length_toList, cells_size]; exact HZS.out))
                    all_goals kernel_rfl
                  simp only [Act.put]
                  refine wpAnyH_take (i := 5) (v := .bool false) rfl (by kernel_rfl) (by kernel_rfl) (by kernel_rfl) (fun _ _ _ h => h) (yields_eqsu (by kernel_rfl) x b false HEQ.out (.tmp 74) (.tmp 75) _ rfl (by kernel_rfl) (by kernel_rfl)) hH ?_
                  simp only [Act.put]
                  refine wpAnyH_done (by kernel_rfl) ?_ _
                  try simp only [Act.put]
                  go_simp
                  go_wp2_with fail
                  exact ⟨⟨j + 1, m, by omega, by go_num, rfl, hid (by rw [HCJ.out]), hH.2, hH.1⟩, by simp [intOf]; omega⟩
              · obtain rfl : j = k := by omega
                have hrr3 := HRR.out.below HBY.out HRR.out.lt
                have HR33 := hid hrr3
                clear hrr3
                rw [← hm.out] at HRES2
                go_wp2_with (first
                  | (refine wpl_load_want rfl 27 (.tmp 11) rfl wL.heap.size rfl 27 b.cells (0, 0) _ HRY.out.arr Try.underlying27 rfl HZS.out ?_)
                  | (refine wpl_store_st rfl (.tmp 2) (.tmp 79) rfl (n := 17) HZS.out w.heap.size su0.cells b.cells rfl rfl HR33.out ?_ (hid rfl) (hid rfl) (cells_one _); intro w4 HR4 HB4))
                have hbf : Below w.heap.size w wL := HBX.out
                exact bodyPost_ret (v := .tuple #[.agg b.cells, .int .i64 (m : Int), .int .i64 0]) (results_cell2 rfl _ _ w.heap.size 27 b.cells (0, 0) _ (.int .i64 (m : Int)) (.int .i64 0) rfl rfl rfl HR4.arr Try.underlying27 rfl HZS.out) rfl
                  ⟨by rw [HRES2.out]; rfl, (hbf.trans (HBY.out.mono hbf.size)).trans (below_grown HB4 (Nat.le_refl _) (hbf.trans (HBY.out.mono hbf.size)).size)⟩
end Go.Proofs.Ytogchfpecbmocaa
