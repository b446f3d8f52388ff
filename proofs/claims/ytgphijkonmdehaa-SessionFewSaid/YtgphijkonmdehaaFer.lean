/-
  The walk of SessionFew.
-/
import Derived.Test.YtgphijkonmdehaaBack
namespace Go.Proofs.Ytgphijkonmdehaa
open Go.RowKit
set_option maxRecDepth 10000

theorem look_mem {U : List Ss} (h : One U) {x : Ss} (hx : x ∈ U) : look U x.c = x ∧ looks U x.c = true := by
  obtain ⟨k, hk, rfl⟩ := List.getElem_of_mem hx
  have e := pl_one h hk
  unfold look looks
  rw [e, if_pos hk, at_get hk]
  exact ⟨rfl, decide_eq_true hk⟩
theorem look_none {U : List Ss} {c : Int} (h : ∀ x ∈ U, x.c ≠ c) : look U c = ss0 ∧ looks U c = false := by
  have := pl_none h
  unfold look looks
  rw [if_neg this]
  exact ⟨rfl, decide_eq_false this⟩
section
variable {T : List Ss} (hW : WF T) (h1 : One T) {c o : Int} (h0 : opnE T c o = 0)
include hW h1 h0
omit hW in
theorem few_new : look (opn T c o) c = fresh c o ∧ looks (opn T c o) c = true := by
  have h := opn_one h1 c o
  have e : fresh c o ∈ opn T c o := by unfold opn; rw [if_pos h0]; simp
  exact look_mem h e
theorem few_gone (i : Nat) (hi : i < T.length) (hx : T[i].c = opnL T c o) : (look (opn T c o) T[i].c = ss0 ∧ looks (opn T c o) T[i].c = false) ∧ 3 ≤ T.length ∧ ∀ k (hk : k < T.length), ¬ T[k].o < T[i].o := by
  obtain ⟨k1, k2, k3⟩ := opnE_zero h0
  have hc1 := (hW.ok _ (List.getElem_mem hi)).c.1
  have hg : opnL T c o = gone T := by unfold opnL; rw [if_pos h0]
  rw [hg] at hx
  unfold gone at hx
  by_cases h3 : T.length < 3
  · rw [if_pos h3] at hx; omega
  · rw [if_neg h3] at hx
    have hl : lst T < T.length := lstK_lt T T.length (by omega)
    rw [at_get hl] at hx
    have e : i = lst T := h1 i (lst T) hi hl hx
    have ho : opn T c o = T.eraseIdx (lst T) ++ [fresh c o] := by unfold opn room; rw [if_pos h0, if_neg h3]
    refine ⟨?_, by omega, ?_⟩
    · refine look_none ?_
      rw [ho]
      intro y hy
      rcases List.mem_append.1 hy with hy | hy
      · obtain ⟨j, hj, rfl⟩ := List.getElem_of_mem hy
        intro he
        have hjl : j < T.length := by rw [List.length_eraseIdx] at hj; split at hj <;> omega
        rw [List.getElem_eraseIdx] at he
        split at he
        · have := h1 j i _ hi he; omega
        · have := h1 (j + 1) i _ hi he; omega
      · rw [List.mem_singleton.1 hy]
        exact fun he => pl_no k3 _ (List.getElem_mem hi) he.symm
    · intro k hk
      have := lstK_min T T.length k hk
      rw [at_get hk] at this
      have e2 : at_ T (lstK T T.length) = T[i] := by
        have : lstK T T.length = i := e.symm
        rw [this, at_get hi]
      rw [e2] at this
      omega
omit hW in
theorem few_left (i : Nat) (hi : i < T.length) (hx : T[i].c ≠ opnL T c o) : look (opn T c o) T[i].c = T[i] ∧ looks (opn T c o) T[i].c = true := by
  refine look_mem (opn_one h1 c o) ?_
  have hg : opnL T c o = gone T := by unfold opnL; rw [if_pos h0]
  rw [hg] at hx
  unfold opn
  rw [if_pos h0]
  refine List.mem_append.2 (.inl ?_)
  unfold room
  unfold gone at hx
  by_cases h3 : T.length < 3
  · rw [if_pos h3]; exact List.getElem_mem hi
  · rw [if_neg h3] at hx ⊢
    have hl : lst T < T.length := lstK_lt T T.length (by omega)
    rw [at_get hl] at hx
    have hne : i ≠ lst T := by rintro rfl; exact hx rfl
    exact List.mem_eraseIdx_iff_getElem.2 ⟨i, hi, hne, rfl⟩
omit h1 in
theorem few_end : (opnL T c o != 0) = decide (T.length = 3) := by
  have hg : opnL T c o = gone T := by unfold opnL; rw [if_pos h0]
  have := hW.le
  rw [hg]
  unfold gone
  by_cases h3 : T.length < 3
  · rw [if_pos h3, decide_eq_false (by omega)]; rfl
  · have hl : lst T < T.length := lstK_lt T T.length (by omega)
    rw [if_neg h3, decide_eq_true (by omega), at_get hl]
    have := (hW.ok _ (List.getElem_mem hl)).c.1
    exact bne_iff_ne.2 (by omega)
end
set_option maxHeartbeats 4000000 in
theorem few_err (A : Option Addr) (XS : List Ab) (n cc : Nat) (c o : Int) (w : World) (hr : Rd w w.heap.size A (rows Ab.cells XS)) (hn : n = XS.length) (hbig : n ≤ 9223372036854775807) (h0 : opnE (playN XS) c o ≠ 0) : Calls Try.prog 4 #[.slice A n cc, .int .i64 c, .int .i64 o] w (VE w (.bool true)) := by
  have HOP : Hid (∀ p fp W, Gk 54 p (playN XS) fp W → Calls Try.prog 18 #[.pointer (some ⟨p, 0, none⟩), .int .i64 c, .int .i64 o] W fun e w' => e = .returned (.tuple #[.int .i64 0, .int .i64 (opnE (playN XS) c o)]) ∧ Gw 54 p W fp (playN XS) w') := hid fun p fp W hk => by
    have := opn_any p fp (playN XS) c o W hk
    unfold opnL opn at this
    rw [if_neg h0, if_neg h0] at this
    exact this
  have q0 : (opnE (playN XS) c o != 0) = true := bne_iff_ne.2 h0
  generalize opnE (playN XS) c o = er at *
  have HZ := hid ssSize
  obtain ⟨nt, hnt⟩ : ∃ nt, (playN XS).length = nt := ⟨_, rfl⟩
  have HNT := hid hnt
  have hn3 : nt ≤ 3 := by rw [← hnt]; exact (playN_wf XS).le
  have HN3 := hid hn3
  have q3t : ¬ 3 < (nt : Int) := by omega
  clear hnt
  clear h0
  have HR := hid hr
  have HN := hid hn
  have HST := hid (fun k (hk : k < XS.length) => playS_take XS k hk)
  have HEND : Hid (∀ k, k = 60 → playS (XS.take k) = playN XS) := hid fun k he => by
    unfold playN
    congr 1
    rw [List.take_eq_take_iff]
    omega
  have HEND2 : Hid (∀ k, k = n → k ≤ 60 → playS (XS.take k) = playN XS) := hid fun k hk he => by
    unfold playN
    congr 1
    rw [List.take_eq_take_iff]
    omega
  have HD := hid (fun p (T : List Ss) (x : Ab) fp W (hk : Gk 54 p T fp W) => does_any p fp T x W hk)
  have HX6 := hid (show (Try.prog.info? 34).map (·.size) = some 6 from by kernel_rfl)
  have HAW := hid awake_any
  clear hr hn
  go_enter Try.func4, Try.ntmps4
  go_wp2_with (first
    | (go_at_call 8; refine (HAW.out _).mono ?_; rintro e w1 ⟨rfl, hx⟩; have HBB := hid hx; clear hx)
    | (go_at_call 9; refine (new_any _).mono ?_; rintro e w1 ⟨p, fp, rfl, hk, hf, hx⟩; have HSK := hid (Sk.mk' HBB.out hk hf hx); clear hk hf hx))
  go_loopw [8] (fun iv wr => ∃ k : Nat, k ≤ n ∧ k ≤ 60 ∧ iv = .int .i64 (k : Int) ∧ Sk w 54 p (playS (XS.take k)) wr) (fun iv _ => n - (intOf iv).toNat)
  case atStart => exact ⟨0, by omega, by omega, rfl, HSK.out⟩
  case round =>
    obtain ⟨k, hk, hk60, rfl, hsk⟩ := hrel
    have HSR := hid hsk
    clear hsk
    by_cases hlt : k < n
    · by_cases hlt60 : k < 60
      · have hkl : k < XS.length := by rw [← HN.out]; exact hlt
        have hrd := HR.out.below HSR.out.frame (Nat.le_refl _)
        obtain ⟨ga, o, rfl⟩ := shape_of hrd Ab.len (by decide) (by omega)
        have hrg := hrd.range Ab.len k hkl
        have HDK := hid (fun fp W hk => HD.out p (playS (XS.take k)) XS[k] fp W hk)
        rw [← HST.out k hkl] at HDK
        have HC6 : Hid ((Ab.cells XS[k]).length = 6) := hid (Ab.len _)
        generalize doV (playS (XS.take k)) XS[k] = dv at *
        generalize doE (playS (XS.take k)) XS[k] = de at *
        generalize Ab.cells XS[k] = X at *
        obtain ⟨U, hU⟩ : ∃ U, playS (XS.take (k + 1)) = U := ⟨_, rfl⟩
        rw [hU] at HDK
        have HUU := hid hU
        clear hU
        have HRG := hid hrg
        have hi0 : (0 : Int) ≤ (k : Int) := by omega
        have hi1 : (k : Int) < (n : Int) := by omega
        have hi2 : (k : Int) < 60 := by omega
        clear hrd hrg
        go_wp2_with (first
          | (refine wpList_load_mid rfl 34 (.tmp 35) rfl ga (o + k * 6) rfl X _ HRG.out Try.underlying34 rfl (by rw [HC6.out]; exact HX6.out) ?_)
          | (go_at_call 10; refine (HSR.out.call (fun fp hk => HDK.out fp _ hk)).mono ?_; rintro e w2 ⟨rfl, hs2⟩))
        exact ⟨⟨k + 1, by omega, by omega, by go_num, by rw [HUU.out]; exact hs2⟩, by simp [intOf]; omega⟩
      · have HT : Hid (Sk w 54 p (playN XS) wr) := hid (by rw [← HEND.out k (by omega)]; exact HSR.out)
        have hi1 : (k : Int) < (n : Int) := by omega
        have hi2 : ¬ (k : Int) < 60 := by omega
        clear HSR HST HEND HEND2
        generalize playN XS = T at *
        have HL1 : Hid True := hid trivial
        go_wp2_with (first
          | (go_at_call 15; have tok := HL1.out; refine (HT.out.listed).mono ?_; intro e w3 hh; obtain ⟨A9, c9, rfl, hc9, hr9, hx, hn9⟩ := hh; rw [HNT.out]; have HAK := hid (HT.out.list hr9 hx hn9); have HC9 := hid (by rw [HNT.out] at hc9; exact hc9 : nt ≤ c9); clear hx hr9 hc9 hn9 tok HL1 HT)
          | (go_at_call 18; refine (HAK.out.call (fun fp hk => HOP.out p fp _ hk)).mono ?_; rintro e w4 ⟨rfl, hx⟩; have HAU := hid hx; clear hx HAK)
          | (go_at_call 15; refine (HAU.out.fst.listed).mono ?_; intro e w5 hh; obtain ⟨A10, c10, rfl, hc10, hr10, hx, -⟩ := hh; rw [HNT.out]; have HB5 := hid hx; have HC10 := hid (by rw [HNT.out] at hc10; exact hc10 : nt ≤ c10); have HR10 := hid hr10; have HR9 := hid ((HAU.out.rd.below hx (Nat.le_refl _)).more hx.size); clear hx hr10 hc10)
          | (go_at_call 14; refine (same_any A9 A10 T nt c9 c10 w5.heap.size w5 HR9.out HR10.out HNT.out.symm HC9.out HC10.out (Nat.le_refl _) (by have := HN3.out; omega)).mono ?_; rintro e w7 ⟨rfl, hx⟩; have HX7 := hid hx; clear hx))
        go_ret
        exact ⟨rfl, (HAU.out.below HB5.out).frame.trans (HX7.out.mono (HAU.out.below HB5.out).frame.size)⟩
    · have HT : Hid (Sk w 54 p (playN XS) wr) := hid (by rw [← HEND2.out k (by omega) hk60]; exact HSR.out)
      have hi1 : ¬ (k : Int) < (n : Int) := by omega
      clear HSR HST HEND HEND2
      generalize playN XS = T at *
      have HL1 : Hid True := hid trivial
      go_wp2_with (first
        | (go_at_call 15; have tok := HL1.out; refine (HT.out.listed).mono ?_; intro e w3 hh; obtain ⟨A9, c9, rfl, hc9, hr9, hx, hn9⟩ := hh; rw [HNT.out]; have HAK := hid (HT.out.list hr9 hx hn9); have HC9 := hid (by rw [HNT.out] at hc9; exact hc9 : nt ≤ c9); clear hx hr9 hc9 hn9 tok HL1 HT)
        | (go_at_call 18; refine (HAK.out.call (fun fp hk => HOP.out p fp _ hk)).mono ?_; rintro e w4 ⟨rfl, hx⟩; have HAU := hid hx; clear hx HAK)
        | (go_at_call 15; refine (HAU.out.fst.listed).mono ?_; intro e w5 hh; obtain ⟨A10, c10, rfl, hc10, hr10, hx, -⟩ := hh; rw [HNT.out]; have HB5 := hid hx; have HC10 := hid (by rw [HNT.out] at hc10; exact hc10 : nt ≤ c10); have HR10 := hid hr10; have HR9 := hid ((HAU.out.rd.below hx (Nat.le_refl _)).more hx.size); clear hx hr10 hc10)
        | (go_at_call 14; refine (same_any A9 A10 T nt c9 c10 w5.heap.size w5 HR9.out HR10.out HNT.out.symm HC9.out HC10.out (Nat.le_refl _) (by have := HN3.out; omega)).mono ?_; rintro e w7 ⟨rfl, hx⟩; have HX7 := hid hx; clear hx))
      go_ret
      exact ⟨rfl, (HAU.out.below HB5.out).frame.trans (HX7.out.mono (HAU.out.below HB5.out).frame.size)⟩
end Go.Proofs.Ytgphijkonmdehaa
