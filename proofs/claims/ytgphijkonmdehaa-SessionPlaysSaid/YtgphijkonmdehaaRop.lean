/-
  The walk of the document's Open.
-/
import Derived.Test.YtgphijkonmdehaaRfn
namespace Go.Proofs.Ytgphijkonmdehaa
open Go.RowKit
set_option maxRecDepth 10000

/-- which one goes; three, if none does -/
def gi (T : List Ss) : Nat := if T.length < 3 then 3 else lst T
/-- the same, as the loop has it behind k rounds -/
def giK (T : List Ss) (k : Nat) : Int := if T.length < 3 then -1 else if k = 0 then -1 else (lstK T k : Int)
theorem gi_room {T : List Ss} (h : T.length ≤ 3) : T.eraseIdx (gi T) = room T := by
  unfold gi room
  by_cases h3 : T.length < 3
  · rw [if_pos h3, if_pos h3, List.eraseIdx_of_length_le (by omega)]
  · rw [if_neg h3, if_neg h3]
/-- the first k that stay -/
def stay (T : List Ss) (k : Nat) : List Ss := (T.take k).eraseIdx (gi T)
theorem stay_step {T : List Ss} {k : Nat} (h : k < T.length) : stay T (k + 1) = if k = gi T then stay T k else stay T k ++ [T[k]] := by
  have hl : (T.take k).length = k := by rw [List.length_take]; omega
  unfold stay
  rw [List.take_succ_eq_append_getElem h]
  by_cases h1 : gi T < k
  · rw [if_neg (by omega), List.eraseIdx_append_of_lt_length (by omega)]
  · rw [List.eraseIdx_append_of_length_le (by omega), hl]
    have e1 : (T.take k).eraseIdx (gi T) = T.take k := List.eraseIdx_of_length_le (by omega)
    by_cases h2 : k = gi T
    · rw [if_pos h2, e1, show gi T - k = 0 by omega]
      simp
    · rw [if_neg h2, e1, List.eraseIdx_of_length_le (by simp; omega)]
theorem stay_all {T : List Ss} (h : T.length ≤ 3) : stay T T.length = room T := by
  unfold stay
  rw [List.take_length, gi_room h]
theorem stay_le (T : List Ss) (k : Nat) : (stay T k).length ≤ k := by
  unfold stay
  have h1 := (List.eraseIdx_sublist (T.take k) (gi T)).length_le
  have h2 := List.length_take_le k T
  omega
/-- who goes, behind k rounds -/
def whoK (T : List Ss) (k : Nat) : Int := if k ≤ gi T then 0 else gone T
theorem whoK_all {T : List Ss} (h : T.length ≤ 3) : whoK T T.length = gone T := by
  unfold whoK
  by_cases h1 : T.length ≤ gi T
  · rw [if_pos h1]
    unfold gi gone at *
    by_cases h3 : T.length < 3
    · rw [if_pos h3]
    · rw [if_neg h3] at h1
      have := lstK_lt T T.length (by omega)
      unfold lst at h1
      omega
  · rw [if_neg h1]
theorem whoK_step {T : List Ss} {k : Nat} (hk : k < T.length) (h : T.length ≤ 3) : whoK T (k + 1) = if k = gi T then T[k].c else whoK T k := by
  unfold whoK
  by_cases h1 : k = gi T
  · rw [if_pos h1, if_neg (by omega)]
    unfold gi at h1
    unfold gone
    by_cases h3 : T.length < 3
    · rw [if_pos h3] at h1; omega
    · rw [if_neg h3] at h1 ⊢
      rw [← h1, at_get hk]
  · rw [if_neg h1]
    by_cases h2 : k ≤ gi T
    · rw [if_pos (by omega), if_pos h2]
    · rw [if_neg (by omega), if_neg h2]
theorem giK_test {T : List Ss} {k : Nat} (h : T.length ≤ 3) : ((k : Int) == giK T T.length) = decide (k = gi T ∧ ¬ T.length < 3) := by
  unfold giK gi
  by_cases h3 : T.length < 3
  · rw [if_pos h3, decide_eq_false (by simp [h3])]
    exact beq_eq_false_iff_ne.2 (by omega)
  · rw [if_neg h3, if_neg h3, if_neg (by omega)]
    unfold lst
    by_cases hk : k = lstK T T.length
    · rw [decide_eq_true ⟨hk, h3⟩]; exact beq_iff_eq.2 (by omega)
    · rw [decide_eq_false (fun q => hk q.1)]; exact beq_eq_false_iff_ne.2 (by omega)
section
variable (p : Nat) (c o : Int) (w : World)
set_option maxHeartbeats 400000 in
theorem ropn_1a (h1 : ¬ Fit1 c) : Calls Try.prog 23 #[.pointer (some ⟨p, 0, none⟩), .int .i64 c, .int .i64 o] w (NN w 0 1) := by
  have HN1 := hid (fun W => fits_no c 1 W h1)
  clear h1
  go_enter Try.func23, Try.ntmps23
  go_wp2_with (first
    | (go_at_call 39; refine (HN1.out _).mono ?_; rintro e w3 ⟨rfl, hw⟩; obtain rfl := hw.symm; clear HN1))
  go_ret2
  exact ⟨rfl, Below.refl _ _⟩
set_option maxHeartbeats 400000 in
theorem ropn_1b (h1 : Fit1 c) (h2 : ¬ Fit1 o) : Calls Try.prog 23 #[.pointer (some ⟨p, 0, none⟩), .int .i64 c, .int .i64 o] w (NN w 0 1) := by
  have HN1 := hid (fun W => fits_yes c 1 W h1.1 h1.2)
  have HN2 := hid (fun W => fits_no o 1 W h2)
  clear h1 h2
  go_enter Try.func23, Try.ntmps23
  go_wp2_with (first
    | (go_at_call 39; refine (HN1.out _).mono ?_; rintro e w3 ⟨rfl, hw⟩; obtain rfl := hw.symm; clear HN1)
    | (go_at_call 39; refine (HN2.out _).mono ?_; rintro e w3 ⟨rfl, hw⟩; obtain rfl := hw.symm))
  go_ret2
  exact ⟨rfl, Below.refl _ _⟩
set_option maxHeartbeats 400000 in
theorem ropn_7 (v : Value) (T : List Ss) (h : HasT w 29 p v T) (h1 : Fit1 c) (h2 : Fit1 o) (hk : pl T c < T.length) : Calls Try.prog 23 #[.pointer (some ⟨p, 0, none⟩), .int .i64 c, .int .i64 o] w (NN w 0 7) := by
  have HN1 := hid (fun W => fits_yes c 1 W h1.1 h1.2)
  have HN2 := hid (fun W => fits_yes o 1 W h2.1 h2.2)
  have HP := hid (place_any p v T c w h)
  rw [show idx T c = (pl T c : Int) from by unfold idx; rw [if_pos hk]] at HP
  generalize pl T c = k at *
  clear h hk h1 h2
  go_enter Try.func23, Try.ntmps23
  go_wp2_with (first
    | (go_at_call 39; refine (HN1.out _).mono ?_; rintro e w3 ⟨rfl, hw⟩; obtain rfl := hw.symm; clear HN1)
    | (go_at_call 39; refine (HN2.out _).mono ?_; rintro e w3 ⟨rfl, hw⟩; obtain rfl := hw.symm)
    | (go_at_call 28; refine HP.out.mono ?_; rintro e w2 ⟨rfl, hw⟩; obtain rfl := hw.symm))
  go_ret2
  exact ⟨rfl, Below.refl _ _⟩
set_option maxHeartbeats 4000000 in
theorem ropn_0 (v : Value) (T : List Ss) (h : HasT w 29 p v T) (h1 : Fit1 c) (h2 : Fit1 o) (hk : ¬ pl T c < T.length) : Calls Try.prog 23 #[.pointer (some ⟨p, 0, none⟩), .int .i64 c, .int .i64 o] w fun e w' => e = .returned (.tuple #[.int .i64 (gone T), .int .i64 0]) ∧ Gw 29 p w (fpT p v) (room T ++ [fresh c o]) w' := by
  obtain ⟨i0, hi, hz0, hz1, hz2⟩ := info_parts ssInfo
  have hT3 := h.wf.le
  have HWF : Hid (WF (room T ++ [fresh c o])) := hid (by
    have := opn_wf h.wf c o
    have e : opnE T c o = 0 := by unfold opnE; rw [if_neg (by omega), if_neg hk]
    unfold opn at this
    rw [if_pos e] at this
    exact this)
  have HN1 := hid (fun W => fits_yes c 1 W h1.1 h1.2)
  have HN2 := hid (fun W => fits_yes o 1 W h2.1 h2.2)
  have HP := hid (place_any p v T c w h)
  rw [show idx T c = -1 from by unfold idx; rw [if_neg hk]] at HP
  have HH := hid (fun W (hW : Below w.heap.size w W) => h.below hW)
  obtain ⟨A, cap, ev, hcap, -⟩ := h.shape
  have HC0 := hid (fun W (hW : Below w.heap.size w W) => show W.cell? ⟨p, 0, none⟩ = some (.slice A T.length cap) from by rw [← ev]; exact (h.below hW).c0)
  have HRW := hid (fun W (hW : Below w.heap.size w W) => show Rd W w.heap.size A (rows Ss.cells T) from by
    obtain ⟨A', c', e', -, hr⟩ := h.shape
    rw [ev] at e'
    simp only [Value.slice.injEq, true_and] at e'
    rw [e'.1]
    exact hr.below hW (Nat.le_refl _))
  have HST := hid (fun k (hk : k < T.length) => stay_step hk)
  have HWS := hid (fun k (hk : k < T.length) => whoK_step hk hT3)
  have HGT := hid (fun k => giK_test (T := T) (k := k) hT3)
  have HSL := hid (stay_le T)
  have HSA := hid (stay_all hT3)
  have HWA := hid (whoK_all hT3)
  have HRL := hid (room_le hT3)
  have HS0 : Hid (stay T 0 = []) := hid (by unfold stay; simp)
  have HW0 : Hid (whoK T 0 = 0) := hid (by unfold whoK; rw [if_pos (Nat.zero_le _)])
  have HLT := hid (fun (h3 : T.length = 3) k (hk : k ≤ 3) => lst_lt h3 k hk)
  have HGK0 : Hid (T.length = 3 → giK T 1 = 0) := hid fun h3 => by
    unfold giK
    rw [if_neg (by omega), if_neg (by omega), lstK_one]
    rfl
  have HGK : Hid (∀ k (hk : k < T.length) (h3 : T.length = 3), giK T (k + 1) = if T[k].o < (T[lstK T k]'(lst_lt h3 k (by omega))).o then (k : Int) else (lstK T k : Int)) := hid (by
    intro k hk h3
    unfold giK
    rw [if_neg (by omega), if_neg (by omega), lstK, at_get hk, at_get (lst_lt h3 k (by omega))]
    by_cases hl : T[k].o < (T[lstK T k]'(lst_lt h3 k (by omega))).o
    · rw [if_pos hl, if_pos hl]
    · rw [if_neg hl, if_neg hl])
  have HG0 : Hid (giK T 0 = -1) := hid (by unfold giK; split <;> rfl)
  have HGP : Hid (∀ k, 0 < k → T.length = 3 → giK T k = (lstK T k : Int)) := hid (by intro k hk h3; unfold giK; rw [if_neg (by omega), if_neg (by omega)])
  have HGF : Hid (T.length < 3 → ∀ k, giK T k = -1) := hid (by intro h3 k; unfold giK; rw [if_pos h3])
  have HZ := hid ssSize
  obtain ⟨n, hn⟩ : ∃ n, T.length = n := ⟨_, rfl⟩
  have HN := hid hn
  rw [hn] at hT3 hcap HC0 HSA HWA HGT
  have HG3 : Hid (n < 3 → gi T = 3) := hid (by intro h3; unfold gi; rw [if_pos (by rw [HN.out]; exact h3)])
  have HEM : Hid (∀ W : World, (W.alloc (.cells #[] 37)).ownsRow W.heap.size 37 5 (.slice (some ⟨W.heap.size, 0, none⟩) 0 0) 0 []) := hid fun W => own_empty (Row.new _ _ #[]) (Nat.le_refl _)
  have HNX : Hid (∀ (W : World) (X : List Value), Hid (Rd (W.alloc (.cells X.toArray 37)) (W.heap.size + 1) (some ⟨W.heap.size, 0, none⟩) X)) := hid fun W X => hid (Row.rd (e := 37) (show Row (W.alloc (.cells X.toArray 37)) W.heap.size 37 X from by simpa using Row.new W 37 X.toArray) (Nat.lt_succ_self _))
  have hc0 := HC0.out w (Below.refl _ _)
  clear h hk h1 h2 hn ev
  go_enter Try.func23, Try.ntmps23
  go_wp2_with (first
    | (go_at_call 39; refine (HN1.out _).mono ?_; rintro e w3 ⟨rfl, hw⟩; obtain rfl := hw.symm; clear HN1)
    | (go_at_call 39; refine (HN2.out _).mono ?_; rintro e w3 ⟨rfl, hw⟩; obtain rfl := hw.symm)
    | (go_at_call 28; refine HP.out.mono ?_; rintro e w2 ⟨rfl, hw⟩; obtain rfl := hw.symm))
  clear hc0
  go_loopw [8, 9] (fun gv iv wr => ∃ k : Nat, k ≤ n ∧ (n < 3 → k = 0) ∧ iv = .int .i64 (k : Int) ∧ gv = .int .i64 (giK T k) ∧ Below w.heap.size w wr) (fun _ iv _ => n - (intOf iv).toNat)
  case atStart => exact ⟨0, by omega, fun _ => rfl, rfl, by rw [HG0.out], Below.refl _ _⟩
  case round =>
    obtain ⟨k, hk, hk3, rfl, rfl, hbe⟩ := hrel
    have HBE := hid hbe
    have hc0 := HC0.out wr hbe
    have hk0 : (0 : Int) ≤ (k : Int) := by omega
    by_cases hgo : k < n ∧ n = 3
    · obtain ⟨hlt, hn3⟩ := hgo
      have hkl : k < T.length := by rw [HN.out]; exact hlt
      have h3 : T.length = 3 := by rw [HN.out]; exact hn3
      have hk1 : (k : Int) < (n : Int) := by omega
      have hn3i : (3 : Int) ≤ (n : Int) := by omega
      obtain ⟨ga, oa, rfl⟩ := shape_of (HRW.out wr hbe) Ss.len (by decide) (by omega)
      by_cases hkz : k = 0
      · subst hkz
        rw [HG0.out]
        have HGE := hid (HGK0.out h3)
        clear hbe hk3
        go_wp2_with fail
        go_quiet (fail)
        go_wp2_with fail
        exact ⟨⟨1, by omega, by omega, rfl, by rw [HGE.out] <;> rfl, by simpa using below_drewN HBE.out _⟩, by simp [intOf]; omega⟩
      · have hl := lst_lt h3 k (by omega)
        have hok := (HRW.out wr hbe).range Ss.len k hkl 3 _ rfl
        have hol := (HRW.out wr hbe).range Ss.len (lstK T k) hl 3 _ rfl
        rw [HGP.out k (by omega) h3]
        have hgk := HGK.out k hkl h3
        generalize T[k].o = ok at *
        generalize T[lstK T k].o = ol at *
        obtain ⟨l, hll⟩ : ∃ l, lstK T k = l := ⟨_, rfl⟩
        rw [hll] at hl hol hgk ⊢
        have hl0 : (0 : Int) ≤ (l : Int) := by omega
        have hl1 : (l : Int) < (n : Int) := by omega
        have hl2 : decide ((l : Int) < 0) = false := decide_eq_false (by omega)
        clear hll hbe
        by_cases hd : ok < ol
        · have hd' : decide (ok < ol) = true := decide_eq_true hd
          rw [if_pos hd] at hgk
          have HGE := hid hgk
          clear hgk hd hk3 hkz
          go_wp2_with fail
          go_quiet (fail)
          go_wp2_with fail
          exact ⟨⟨k + 1, by omega, by omega, by go_num, by rw [HGE.out], below_drewN HBE.out _⟩, by simp [intOf]; omega⟩
        · have hd' : decide (ok < ol) = false := decide_eq_false hd
          rw [if_neg hd] at hgk
          have HGE := hid hgk
          clear hgk hd hk3 hkz
          go_wp2_with fail
          go_quiet (fail)
          go_wp2_with fail
          exact ⟨⟨k + 1, by omega, by omega, by go_num, by rw [HGE.out], below_drewN HBE.out _⟩, by simp [intOf]; omega⟩
    · have hend : (n < 3 ∧ k = 0) ∨ k = n := by
        rcases Nat.lt_or_ge n 3 with hh | hh
        · exact .inl ⟨hh, hk3 hh⟩
        · right; omega
      have HGI : Hid (giK T k = giK T n) := hid (by
        rcases hend with ⟨a, b⟩ | a
        · rw [HGF.out (by rw [HN.out]; exact a), HGF.out (by rw [HN.out]; exact a)]
        · rw [a])
      have hcond : (¬ (k : Int) < (n : Int)) ∨ ((k : Int) < (n : Int) ∧ ¬ (3 : Int) ≤ (n : Int)) := by
        by_cases h4 : k < n
        · right
          exact ⟨by omega, by omega⟩
        · left
          omega
      rw [HGI.out]
      generalize giK T n = gz at *
      clear hend hbe hk3
      rcases hcond with q1 | ⟨q1, q2⟩
      · go_wp2_with fail
        go_loopw [10, 11, 12] (fun qv lv iv wq => ∃ j m : Nat, j ≤ n ∧ iv = .int .i64 (j : Int) ∧ qv = .int .i64 (whoK T j) ∧ Hid (m = (stay T j).length) ∧ wq.ownsRow w.heap.size 37 5 lv m (rows Ss.cells (stay T j)) ∧ Below w.heap.size w wq) (fun _ _ iv _ => n - (intOf iv).toNat)
        case atStart => exact ⟨0, 0, by omega, rfl, by rw [HW0.out], hid (by rw [HS0.out]; rfl), by rw [HS0.out]; exact own_base (HEM.out wr) HBE.out.size, HBE.out.alloc HBE.out.size _⟩
        case round =>
          obtain ⟨j, m, hj, rfl, rfl, HM, ho, hbq⟩ := hrel
          have HBQ := hid hbq
          have HO := hid ho
          have hc1 := HC0.out wr hbq
          have hj0 : (0 : Int) ≤ (j : Int) := by omega
          have hmj : m ≤ 3 := by have := HSL.out j; rw [← HM.out] at this; omega
          by_cases hlt : j < n
          · have hjl : j < T.length := by rw [HN.out]; exact hlt
            have hj1 : (j : Int) < (n : Int) := by omega
            obtain ⟨ga, oa, rfl⟩ := shape_of (HRW.out wr hbq) Ss.len (by decide) (by omega)
            have hrg := (HRW.out wr hbq).range Ss.len j hjl
            have hst := HST.out j hjl
            have hws := HWS.out j hjl
            have hgt := HGT.out j
            by_cases ht : j = gi T ∧ ¬ n < 3
            · rw [decide_eq_true ht] at hgt
              rw [if_pos ht.1] at hst hws
              have hcc := hrg 0 _ rfl
              rw [Nat.add_zero] at hcc
              have HST1 := hid hst
              have HWS1 := hid hws
              generalize T[j].c = xc at *
              clear hst hws ht hrg ho hbq
              go_wp2_with fail
              exact ⟨⟨j + 1, m, by omega, by go_num, by rw [HWS1.out], hid (by rw [HST1.out]; exact HM.out), by rw [HST1.out]; exact HO.out, HBQ.out⟩, by simp [intOf]; omega⟩
            · rw [decide_eq_false ht] at hgt
              have hne : j ≠ gi T := by
                intro e
                by_cases h3 : n < 3
                · have := HG3.out h3; omega
                · exact ht ⟨e, h3⟩
              rw [if_neg hne] at hst hws
              have HST1 := hid hst
              have HWS1 := hid hws
              have HC5 : Hid ((Ss.cells T[j]).length = 5) := hid (Ss.len _)
              have HC1 := hid (Ss.ones T[j])
              have HR1 : Hid (rows Ss.cells (stay T j ++ [T[j]]) = rows Ss.cells (stay T j) ++ Ss.cells T[j]) := hid (by rw [rows_app, rows1])
              have HL1 : Hid ((stay T j ++ [T[j]]).length = (stay T j).length + 1) := hid (by simp)
              generalize stay T j ++ [T[j]] = V at *
              generalize Ss.cells T[j] = X at *
              have HRG := hid hrg
              clear hst hws hne ht hrg ho hbq
              go_wp2_with (first
                | (refine wpList_load_mid rfl 37 (.tmp 91) rfl ga (oa + j * 5) rfl X _ HRG.out Try.underlying37 rfl (by rw [HC5.out]; exact HZ.out) ?_)
                | (refine wpl_slice1 rfl 27 37 (.tmp 92) rfl i0 _ 5 Try.underlying27 hi hz0 hz1 (by decide) (by decide) X rfl HC5.out ?_)
                | (refine wpl_append rfl (.tmp 85) (.tmp 93) 27 rfl w.heap.size 37 i0 _ 5 48 Try.underlying27 hi hz0 hz1 hz2 rfl (by omega) _ m _ rfl (HO.out.alloc _) (wr.heap.size + 1) (some ⟨wr.heap.size, 0, none⟩) 1 1 X rfl ?_ (HNX.out wr X) (hid HC5.out) (hid HC1.out) (hid (le_maxLen (by omega))) (hid (by omega)) (hid (by have := HBQ.out.size; simp; omega)); intro v2 w2 hown2 hb2 hg2; have HO2 := hid hown2; have HB2 := hid (((Below.refl w.heap.size w).trans (HBQ.out.alloc HBQ.out.size _)).trans hb2); clear hown2 hb2 hg2))
              exact ⟨⟨j + 1, m + 1, by omega, by go_num, by rw [HWS1.out], hid (by rw [HST1.out, HL1.out, HM.out]), by rw [HST1.out, HR1.out]; exact HO2.out, HB2.out⟩, by simp [intOf]; omega⟩
          · obtain rfl : j = n := by omega
            have hj1 : ¬ (j : Int) < (j : Int) := by omega
            have HCF := hid (Ss.ones (fresh c o))
            go_wp2_with (first
              | (refine wpl_slice1 rfl 27 37 (.tmp 100) rfl i0 _ 5 Try.underlying27 hi hz0 hz1 (by decide) (by decide) [.int .i64 c, .int .i64 o, .int .i64 0, .int .i64 o, .string ⟨#[]⟩] rfl rfl ?_)
              | (refine wpl_append rfl (.tmp 96) (.tmp 101) 27 rfl w.heap.size 37 i0 _ 5 48 Try.underlying27 hi hz0 hz1 hz2 rfl (by omega) _ m _ rfl (HO.out.alloc _) (wr.heap.size + 1) (some ⟨wr.heap.size, 0, none⟩) 1 1 (Ss.cells (fresh c o)) rfl ?_ (HNX.out wr (Ss.cells (fresh c o))) (hid rfl) HCF (hid (le_maxLen (by omega))) (hid (by omega)) (hid (by have := HBQ.out.size; simp; omega)); intro v2 w2 hown2 hb2 hg2; obtain ⟨g2, cap2, rfl, -, -⟩ := hown2.form (by omega); have HO2 := hid hown2; have HB2 := hid (((Below.refl w.heap.size w).trans (HBQ.out.alloc HBQ.out.size _)).trans hb2); have d0 := (HH.out _ HB2.out).c0; have d1 := (HH.out _ HB2.out).f 0; clear hown2 hb2 hg2))
            go_ret2
            have ho2 := HO2.out
            have hlen : m + 1 = (room T ++ [fresh c o]).length := by rw [List.length_append, ← HSA.out, HM.out]; rfl
            rw [HSA.out] at ho2
            have hM := (HH.out w (Below.refl _ _)).put (v' := .slice (some ⟨g2, 0, none⟩) (m + 1) cap2) (T' := room T ++ [fresh c o]) ((Fr.of_below HB2.out).mono (by simp)) (by rw [rows_app, rows1, ← hlen]; exact own_zero ho2 0 (fun _ _ => Nat.zero_le _)) (fun b hb => .inr (HO2.out.lt b hb).1) HWF.out
            exact ⟨by rw [HWA.out]; rfl, _, ⟨_, rfl, hM.1⟩, hM.2.1, hM.2.2⟩
      · go_wp2_with fail
        go_loopw [10, 11, 12] (fun qv lv iv wq => ∃ j m : Nat, j ≤ n ∧ iv = .int .i64 (j : Int) ∧ qv = .int .i64 (whoK T j) ∧ Hid (m = (stay T j).length) ∧ wq.ownsRow w.heap.size 37 5 lv m (rows Ss.cells (stay T j)) ∧ Below w.heap.size w wq) (fun _ _ iv _ => n - (intOf iv).toNat)
        case atStart => exact ⟨0, 0, by omega, rfl, by rw [HW0.out], hid (by rw [HS0.out]; rfl), by rw [HS0.out]; exact own_base (HEM.out wr) HBE.out.size, HBE.out.alloc HBE.out.size _⟩
        case round =>
          obtain ⟨j, m, hj, rfl, rfl, HM, ho, hbq⟩ := hrel
          have HBQ := hid hbq
          have HO := hid ho
          have hc1 := HC0.out wr hbq
          have hj0 : (0 : Int) ≤ (j : Int) := by omega
          have hmj : m ≤ 3 := by have := HSL.out j; rw [← HM.out] at this; omega
          by_cases hlt : j < n
          · have hjl : j < T.length := by rw [HN.out]; exact hlt
            have hj1 : (j : Int) < (n : Int) := by omega
            obtain ⟨ga, oa, rfl⟩ := shape_of (HRW.out wr hbq) Ss.len (by decide) (by omega)
            have hrg := (HRW.out wr hbq).range Ss.len j hjl
            have hst := HST.out j hjl
            have hws := HWS.out j hjl
            have hgt := HGT.out j
            by_cases ht : j = gi T ∧ ¬ n < 3
            · rw [decide_eq_true ht] at hgt
              rw [if_pos ht.1] at hst hws
              have hcc := hrg 0 _ rfl
              rw [Nat.add_zero] at hcc
              have HST1 := hid hst
              have HWS1 := hid hws
              generalize T[j].c = xc at *
              clear hst hws ht hrg ho hbq
              go_wp2_with fail
              exact ⟨⟨j + 1, m, by omega, by go_num, by rw [HWS1.out], hid (by rw [HST1.out]; exact HM.out), by rw [HST1.out]; exact HO.out, HBQ.out⟩, by simp [intOf]; omega⟩
            · rw [decide_eq_false ht] at hgt
              have hne : j ≠ gi T := by
                intro e
                by_cases h3 : n < 3
                · have := HG3.out h3; omega
                · exact ht ⟨e, h3⟩
              rw [if_neg hne] at hst hws
              have HST1 := hid hst
              have HWS1 := hid hws
              have HC5 : Hid ((Ss.cells T[j]).length = 5) := hid (Ss.len _)
              have HC1 := hid (Ss.ones T[j])
              have HR1 : Hid (rows Ss.cells (stay T j ++ [T[j]]) = rows Ss.cells (stay T j) ++ Ss.cells T[j]) := hid (by rw [rows_app, rows1])
              have HL1 : Hid ((stay T j ++ [T[j]]).length = (stay T j).length + 1) := hid (by simp)
              generalize stay T j ++ [T[j]] = V at *
              generalize Ss.cells T[j] = X at *
              have HRG := hid hrg
              clear hst hws hne ht hrg ho hbq
              go_wp2_with (first
                | (refine wpList_load_mid rfl 37 (.tmp 91) rfl ga (oa + j * 5) rfl X _ HRG.out Try.underlying37 rfl (by rw [HC5.out]; exact HZ.out) ?_)
                | (refine wpl_slice1 rfl 27 37 (.tmp 92) rfl i0 _ 5 Try.underlying27 hi hz0 hz1 (by decide) (by decide) X rfl HC5.out ?_)
                | (refine wpl_append rfl (.tmp 85) (.tmp 93) 27 rfl w.heap.size 37 i0 _ 5 48 Try.underlying27 hi hz0 hz1 hz2 rfl (by omega) _ m _ rfl (HO.out.alloc _) (wr.heap.size + 1) (some ⟨wr.heap.size, 0, none⟩) 1 1 X rfl ?_ (HNX.out wr X) (hid HC5.out) (hid HC1.out) (hid (le_maxLen (by omega))) (hid (by omega)) (hid (by have := HBQ.out.size; simp; omega)); intro v2 w2 hown2 hb2 hg2; have HO2 := hid hown2; have HB2 := hid (((Below.refl w.heap.size w).trans (HBQ.out.alloc HBQ.out.size _)).trans hb2); clear hown2 hb2 hg2))
              exact ⟨⟨j + 1, m + 1, by omega, by go_num, by rw [HWS1.out], hid (by rw [HST1.out, HL1.out, HM.out]), by rw [HST1.out, HR1.out]; exact HO2.out, HB2.out⟩, by simp [intOf]; omega⟩
          · obtain rfl : j = n := by omega
            have hj1 : ¬ (j : Int) < (j : Int) := by omega
            have HCF := hid (Ss.ones (fresh c o))
            go_wp2_with (first
              | (refine wpl_slice1 rfl 27 37 (.tmp 100) rfl i0 _ 5 Try.underlying27 hi hz0 hz1 (by decide) (by decide) [.int .i64 c, .int .i64 o, .int .i64 0, .int .i64 o, .string ⟨#[]⟩] rfl rfl ?_)
              | (refine wpl_append rfl (.tmp 96) (.tmp 101) 27 rfl w.heap.size 37 i0 _ 5 48 Try.underlying27 hi hz0 hz1 hz2 rfl (by omega) _ m _ rfl (HO.out.alloc _) (wr.heap.size + 1) (some ⟨wr.heap.size, 0, none⟩) 1 1 (Ss.cells (fresh c o)) rfl ?_ (HNX.out wr (Ss.cells (fresh c o))) (hid rfl) HCF (hid (le_maxLen (by omega))) (hid (by omega)) (hid (by have := HBQ.out.size; simp; omega)); intro v2 w2 hown2 hb2 hg2; obtain ⟨g2, cap2, rfl, -, -⟩ := hown2.form (by omega); have HO2 := hid hown2; have HB2 := hid (((Below.refl w.heap.size w).trans (HBQ.out.alloc HBQ.out.size _)).trans hb2); have d0 := (HH.out _ HB2.out).c0; have d1 := (HH.out _ HB2.out).f 0; clear hown2 hb2 hg2))
            go_ret2
            have ho2 := HO2.out
            have hlen : m + 1 = (room T ++ [fresh c o]).length := by rw [List.length_append, ← HSA.out, HM.out]; rfl
            rw [HSA.out] at ho2
            have hM := (HH.out w (Below.refl _ _)).put (v' := .slice (some ⟨g2, 0, none⟩) (m + 1) cap2) (T' := room T ++ [fresh c o]) ((Fr.of_below HB2.out).mono (by simp)) (by rw [rows_app, rows1, ← hlen]; exact own_zero ho2 0 (fun _ _ => Nat.zero_le _)) (fun b hb => .inr (HO2.out.lt b hb).1) HWF.out
            exact ⟨by rw [HWA.out]; rfl, _, ⟨_, rfl, hM.1⟩, hM.2.1, hM.2.2⟩
end
theorem ropn_any (p : Nat) (fp : List Nat) (T : List Ss) (c o : Int) (w : World) (h : Gk 29 p T fp w) : Calls Try.prog 23 #[.pointer (some ⟨p, 0, none⟩), .int .i64 c, .int .i64 o] w fun e w' => e = .returned (.tuple #[.int .i64 (opnL T c o), .int .i64 (opnE T c o)]) ∧ Gw 29 p w fp (opn T c o) w' := by
  have hG := h
  obtain ⟨v, rfl, h⟩ := h
  unfold opnL opn
  by_cases h1 : ¬ Fit1 c ∨ ¬ Fit1 o
  · have e : opnE T c o = 1 := by unfold opnE; rw [if_pos h1]
    rw [e, if_neg (by decide), if_neg (by decide)]
    by_cases h2 : Fit1 c
    · exact (ropn_1b p c o w h2 (h1.resolve_left (fun q => q h2))).mono fun e w' hh => ⟨hh.1, (Gw.start hG).below hh.2⟩
    · exact (ropn_1a p c o w h2).mono fun e w' hh => ⟨hh.1, (Gw.start hG).below hh.2⟩
  · by_cases h2 : pl T c < T.length
    · have e : opnE T c o = 7 := by unfold opnE; rw [if_neg h1, if_pos h2]
      rw [e, if_neg (by decide), if_neg (by decide)]
      exact (ropn_7 p c o w v T h (by omega) (by omega) h2).mono fun e w' hh => ⟨hh.1, (Gw.start hG).below hh.2⟩
    · have e : opnE T c o = 0 := by unfold opnE; rw [if_neg h1, if_neg h2]
      rw [e, if_pos rfl, if_pos rfl]
      exact ropn_0 p c o w v T h (by omega) (by omega) h2
end Go.Proofs.Ytgphijkonmdehaa
