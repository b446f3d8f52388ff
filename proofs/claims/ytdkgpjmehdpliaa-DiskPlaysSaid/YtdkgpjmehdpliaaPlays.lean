/-
  The walk of DiskPlays.
-/
import Derived.Test.YtdkgpjmehdpliaaTwo
import Derived.Deep.CutRange
import Derived.BigQuiet
import Derived.Deep.QuietTactic
namespace Go.Proofs.Ytdkgpjmehdpliaa
open Go.RowKit

theorem wpAnyH_of_quiet {P : Program} {ops : Array Oper} {md : Region.Mode} {C S : World → Prop} {Q : Act → Prop} {Q' : Exit → Act → World → Prop} (hCS : ∀ w, C w → S w) (hQ : ∀ a w, C w → Q a → Q' .normal a w) :
    ∀ (fuel : Nat) (listed : Array Bool) (a : Act) (w : World), C w → wpAnyQ P md ops C Q fuel listed a → wpAnyH P md ops Q' S fuel listed a w
  | 0, _, _, _, hw, h => ⟨h.1, hQ _ _ hw h.2⟩
  | fuel + 1, _, _, _, hw, h => ⟨fun h0 => hQ _ _ hw (h.1 h0), fun i hi => wpOp_of_qOp hw (fun a' w' hw' hk => ⟨hCS _ hw', wpAnyH_of_quiet hCS hQ fuel _ a' w' hw' hk⟩) (h.2 i hi)⟩
theorem wpAnyH_lex {P : Program} {L : List Oper} {md : Region.Mode} {C S : World → Prop} {Q' : Exit → Act → World → Prop} {listed : Array Bool} {a : Act} {w : World} {fuel : Nat} (hCS : ∀ w, C w → S w) (hs : Region.noSelect L.toArray = true) (k : Nat)
    (hB : Region.lexFrom md L.toArray (L.drop k).length k listed = true) (hC : C w) (hf : fuel = (L.drop k).length)
    (h : wpQuiet P L.toArray C (fun a' => ∀ w', C w' → Q' .normal a' w') (L.drop k) a) : wpAnyH P md L.toArray Q' S fuel listed a w := by
  subst hf
  exact wpAnyH_of_quiet hCS (fun _ w' hw' h => h w' hw') _ _ _ _ hC (wpAnyQ_lex hs (L.drop k) k listed a (fun j => by simp) hB h)
theorem quiet_of {P : Program} {f : FuncId} {args : Array Value} {w : World} {n : Nat} {v : Value}
    (h : Calls P f args (w.drewN n) fun e w' => e = .returned v ∧ w' = w.drewN n) : Calls P f args (w.drewN n) fun e w'' => e = .returned v ∧ ∃ m, w'' = w.drewN m :=
  h.mono fun _ _ ⟨he, hm⟩ => ⟨he, n, hm⟩
theorem frN (w : World) (n : Nat) : Fr w (w.drewN n) [] := ⟨rfl, rfl, rfl, Nat.le_refl _, fun _ _ _ => rfl⟩

set_option maxRecDepth 10000 in
set_option maxHeartbeats 1000000 in
theorem plays_bad (sectors : Int) (vl : Value) (w : World) (h : ¬ (1 ≤ sectors ∧ sectors ≤ 64)) :
    Calls Try.prog 3 #[.int .i64 sectors, vl] w (YF w) := by
  go_enter Try.func3, Try.ntmps3
  go_wp2_with (first
    | (go_at_call 9; refine (awake_calls _).mono ?_; rintro e wa ⟨rfl, hf0⟩)
    | (go_at_call 10; refine (new_no sectors _ h).mono ?_; rintro e w1 ⟨rfl, rfl⟩)
    | (go_at_call 11; refine (rnew_no sectors _ h).mono ?_; rintro e w1 ⟨rfl, rfl⟩))
  go_ret
  exact ⟨rfl, hf0⟩

set_option maxRecDepth 10000 in
set_option maxHeartbeats 4000000 in
theorem plays_ok (n : Nat) (A : Option Addr) (l c : Nat) (XS : List Act0) (w : World) (h1 : 1 ≤ n) (h2 : n ≤ 64) (hl : l = XS.length) (hl2 : l ≤ 9223372036854775807) (hok : ∀ X ∈ XS, X.OK w w.heap.size)
    (hr : Rd w w.heap.size A (XS.map Act0.cells).flatten) :
    Calls Try.prog 3 #[.int .i64 (n : Int), .slice A l c] w (YF w) := by
  have HL := hid hl
  have HOK := hid hok
  have HR := hid hr
  clear hl hok hr
  go_enter Try.func3, Try.ntmps3
  go_wp2_with (first
    | (go_at_call 9; refine (awake_calls _).mono ?_; rintro e wa ⟨rfl, hf0⟩)
    | (go_at_call 10; refine (dk_new n _ h1 h2).mono ?_; rintro e w1 ⟨p, gs, rfl, hd⟩; unfold dptr)
    | (go_at_call 11; refine (rnew_yes n _ h1 h2).mono ?_; rintro e w1' ⟨q, gl, gm, cl, cm, rfl, hq1, hq2, hq3, hq4, hq5⟩; unfold dptr))
  have htw := Tw.new hd hq1 hq2 hq3 hq4 hq5
  have HF := hid hf0
  have hRa : Rd wa w.heap.size A (XS.map Act0.cells).flatten := hf0.rd HR.out (Nat.le_refl _) (by simp)
  have hOa : ∀ X ∈ XS, X.OK wa w.heap.size := fun X hX => ⟨hf0.rd (HOK.out X hX).rd (Nat.le_refl _) (by simp), (HOK.out X hX).p, (HOK.out X hX).pn, (HOK.out X hX).n⟩
  have HRA := hid hRa
  have HOA := hid hOa
  have HWS : Hid (w.heap.size ≤ wa.heap.size) := hid hf0.size
  clear hRa hOa hf0 hd hq1 hq2 hq3 hq4 hq5
  go_loopw [9, 10, 11, 12, 13, 14] (fun i _ _ _ _ _ wr => ∃ (k : Nat) (S : Sp), i = .int .i64 (k : Nat) ∧ k ≤ XS.length ∧ k ≤ 60 ∧ Tw wa wr p gs q gl gm cl cm S S ∧ S.count ≤ k ∧ S.secs.length = n) (fun i _ _ _ _ _ _ => 60 - (intOf i).toNat)
  case atStart => exact ⟨0, Sp.mk0 n, rfl, by omega, by omega, htw, Nat.le_refl _, mk0_read n⟩
  case round =>
    obtain ⟨k, S, rfl, hk1, hk2, htk, hcnt, hlen⟩ := hrel
    have HTW := hid htk
    clear htk htw
    by_cases hlt : k < XS.length ∧ k < 60
    · obtain ⟨hlt1, hlt2⟩ := hlt
      obtain ⟨g, o, rfl, hg, hcl⟩ := act_cells (HTW.out.frame.rd HRA.out HWS.out (by simp)) k hlt1
      obtain ⟨X, hX⟩ : ∃ X, XS[k] = X := ⟨_, rfl⟩
      have hxo := HOA.out _ (List.getElem_mem hlt1)
      rw [hX] at hcl hxo
      have HA : Hid (∀ w', Fr wa w' [] → ∀ m v, X.cells[m]? = some v → w'.cell? ⟨g, o + k * 7 + m, none⟩ = some v) := hid (by
        intro w' hf'
        obtain ⟨g', o', e', _, hcl'⟩ := act_cells (hf'.rd HRA.out HWS.out (by simp)) k hlt1
        cases e'
        rw [hX] at hcl'
        exact hcl')
      have HXO := hid hxo
      have HCL := hid hcl
      clear hX hcl hxo
      obtain ⟨S', e, hr'⟩ : ∃ S' e, S.does X = (S', e) := ⟨_, _, rfl⟩
      have hdid := did S X
      rw [hr'] at hdid
      have HR' := hid hr'
      have HDID := hid hdid
      have hcc : S.count ≤ 1048576 := by omega
      have hkl : (k : Int) < (l : Int) := by have := HL.out; omega
      have hk60 : (k : Int) < 60 := by omega
      clear hr' hdid
      go_wp2_with fail
      go_cut [99] from 49 to 172 (fun b wx => b = .bool false ∧ Tw wa wx p gs q gl gm cl cm S' S')
      case first =>
        refine wp_region_held_drew (S := fun w' => ∀ m v, X.cells[m]? = some v → w'.cell? ⟨g, o + k * 7 + m, none⟩ = some v) (by kernel_rfl) HCL.out (fun hH => ?_)
        refine wpAnyH_take (i := 0) (v := .pointer (some ⟨p, 0, none⟩)) rfl (by kernel_rfl) (by kernel_rfl) (by kernel_rfl) (fun _ _ _ h => h) (Or.inl ⟨by rfl, fun w' hw' => by clear hw'; go_simp⟩) hH ?_
        simp only [Act.put]
        refine wpAnyH_take (i := 1) (v := .slice (some ⟨g, o, none⟩) l c) rfl (by kernel_rfl) (by kernel_rfl) (by kernel_rfl) (fun _ _ _ h => h) (Or.inl ⟨by rfl, fun w' hw' => by clear hw'; go_simp⟩) hH ?_
        simp only [Act.put]
        refine wpAnyH_take (i := 2) (v := .int .i64 (k : Int)) rfl (by kernel_rfl) (by kernel_rfl) (by kernel_rfl) (fun _ _ _ h => h) (Or.inl ⟨by rfl, fun w' hw' => by clear hw'; go_simp⟩) hH ?_
        simp only [Act.put]
        refine wpAnyH_take (i := 3) (v := .pointer (some ⟨g, o + k * 7, none⟩)) rfl (by kernel_rfl) (by kernel_rfl) (by kernel_rfl) (fun _ _ _ h => h) (Or.inl ⟨by rfl, fun w' hw' => by clear hw'; go_simp⟩) hH ?_
        simp only [Act.put]
        refine wpAnyH_take (i := 4) (v := .agg #[.int .i64 X.kind, .int .i64 X.i, .int .i64 X.at_, .int .i64 X.n, .int .u8 (X.c.toNat : Int), .string X.text, .slice X.A X.picks.length X.cap]) rfl (by kernel_rfl) (by kernel_rfl) (by kernel_rfl) (fun _ _ _ h => h) (Or.inl ⟨by rfl, fun w' hw' => by have c0 := hw' 0 _ rfl; have c1 := hw' 1 _ rfl; have c2 := hw' 2 _ rfl; have c3 := hw' 3 _ rfl; have c4 := hw' 4 _ rfl; have c5 := hw' 5 _ rfl; have c6 := hw' 6 _ rfl; rw [Nat.add_zero] at c0; clear hw'; go_simp⟩) hH ?_
        simp only [Act.put]
        refine wpAnyH_take (i := 6) (v := .pointer (some ⟨q, 0, none⟩)) rfl (by kernel_rfl) (by kernel_rfl) (by kernel_rfl) (fun _ _ _ h => h) (Or.inl ⟨by rfl, fun w' hw' => by clear hw'; go_simp⟩) hH ?_
        simp only [Act.put]
        refine wpAnyH_take (i := 7) (v := .slice (some ⟨g, o, none⟩) l c) rfl (by kernel_rfl) (by kernel_rfl) (by kernel_rfl) (fun _ _ _ h => h) (Or.inl ⟨by rfl, fun w' hw' => by clear hw'; go_simp⟩) hH ?_
        simp only [Act.put]
        refine wpAnyH_take (i := 8) (v := .int .i64 (k : Int)) rfl (by kernel_rfl) (by kernel_rfl) (by kernel_rfl) (fun _ _ _ h => h) (Or.inl ⟨by rfl, fun w' hw' => by clear hw'; go_simp⟩) hH ?_
        simp only [Act.put]
        refine wpAnyH_take (i := 9) (v := .pointer (some ⟨g, o + k * 7, none⟩)) rfl (by kernel_rfl) (by kernel_rfl) (by kernel_rfl) (fun _ _ _ h => h) (Or.inl ⟨by rfl, fun w' hw' => by clear hw'; go_simp⟩) hH ?_
        simp only [Act.put]
        refine wpAnyH_take (i := 10) (v := .agg #[.int .i64 X.kind, .int .i64 X.i, .int .i64 X.at_, .int .i64 X.n, .int .u8 (X.c.toNat : Int), .string X.text, .slice X.A X.picks.length X.cap]) rfl (by kernel_rfl) (by kernel_rfl) (by kernel_rfl) (fun _ _ _ h => h) (Or.inl ⟨by rfl, fun w' hw' => by have c0 := hw' 0 _ rfl; have c1 := hw' 1 _ rfl; have c2 := hw' 2 _ rfl; have c3 := hw' 3 _ rfl; have c4 := hw' 4 _ rfl; have c5 := hw' 5 _ rfl; have c6 := hw' 6 _ rfl; rw [Nat.add_zero] at c0; clear hw'; go_simp⟩) hH ?_
        simp only [Act.put]
        refine wpAnyH_ready (rs := [5]) (by kernel_rfl) (by simp) ?_
        refine AllReadyH.cons rfl (fun K hK => ?_) AllReadyH.nil
        clear hH
        go_simp
        go_at_call 12
        refine (tw_does (S := S) (T := S) (HTW.out.fr (Fr.drew (Fr.refl wr []))) hcc X _ HXO.out HWS.out HR'.out).mono ?_
        rintro e1 w1 ⟨rfl, h1⟩
        have H1 := hid h1
        clear h1
        go_wp2_with fail
        refine hK.out _ _ (HA.out w1 H1.out.frame) (fun hH => ?_)
        clear hK K
        try simp only [Act.put]
        refine wpAnyH_ready (rs := [11]) (by kernel_rfl) (by simp) ?_
        refine AllReadyH.cons rfl (fun K hK => ?_) AllReadyH.nil
        clear hH
        go_simp
        go_at_call 13
        refine (tw_means (S := S') (T := S) H1.out hcc X _ HXO.out HWS.out HR'.out).mono ?_
        rintro e2 w2 ⟨rfl, h2⟩
        have H2 := hid h2
        have hHX := HA.out w2 h2.frame
        obtain ⟨vr, hr2⟩ := h2.hasR
        obtain ⟨A2, ca2, hv2⟩ := vw_shape hr2.wy
        have d2 := hr2.c2
        have d3 := hr2.c3
        have d5 := hr2.c5
        rw [hv2] at d2
        clear h2 hr2 hv2
        go_wp2_with fail
        refine hK.out _ _ hHX (fun hH => ?_)
        clear hK K hHX
        try simp only [Act.put]
        refine wpAnyH_lex (C := fun w' => ∃ m, w' = w2.drewN m) (fun w' hw' => by obtain ⟨m, rfl⟩ := hw'; exact fun j v hj => hH j v hj) (by kernel_rfl) 12 (by kernel_rfl) ⟨0, rfl⟩ rfl ?_
        clear hH
        show wpQuiet _ _ _ _ (_ :: _) _
        repeat (go_big_quiet_step (first | (go_at_call 14; exact quiet_of (tw_on (H2.out.fr (frN _ _)))) | (go_at_call 15; exact quiet_of (tw_pending (H2.out.fr (frN _ _)))) | (go_at_call 16; exact quiet_of (tw_steps (H2.out.fr (frN _ _))))))
        refine wpQuiet_nil ?_
        rintro _ ⟨nq, rfl⟩
        go_wp2_with fail
        go_meet
        case rel => exact ⟨rfl, H2.out.fr (frN _ _)⟩
      case rest =>
      obtain ⟨rfl, h3⟩ := hcut
      have H3 := hid h3
      clear h3
      have hcc' : S'.count ≤ 1048576 := by have := HDID.out.count; omega
      have hln : S'.secs.length = n := by have := HDID.out.size; omega
      go_wp2_with fail
      go_loopw [10, 11, 12, 13, 14] (fun j _ _ _ _ wr2 => ∃ x : Int, j = .int .i64 x ∧ -1 ≤ x ∧ x ≤ (n : Int) + 1 ∧ Tw wa wr2 p gs q gl gm cl cm S' S') (fun j _ _ _ _ _ => ((n : Int) + 1 - (match j with | .int _ v => v | _ => 0)).toNat)
      case atStart => exact ⟨-1, rfl, by omega, by omega, H3.out⟩
      case round =>
        obtain ⟨x, rfl, hx1, hx2, hw⟩ := hrel
        have HW := hid hw
        clear hw
        by_cases hx : x ≤ (n : Int)
        · obtain ⟨lr, xr, hrd⟩ : ∃ lr xr, S'.read x = (lr, xr) := ⟨_, _, rfl⟩
          have HRD := hid hrd
          clear hrd
          have hwr : IntKind.i64.wrap (x + 1) = x + 1 := IntWalk.i64_in _ (by omega)
          go_wp2_with (first
            | (go_at_call 17; refine (tw_read HW.out hcc' x HRD.out).mono ?_; rintro e4 w4 ⟨rfl, h4⟩; have H4 := hid h4; clear h4)
            | (go_at_call 18; refine (tw_rread H4.out hcc' x HRD.out).mono ?_; rintro e5 w5 ⟨rfl, rfl⟩))
          obtain ⟨vr4, hr4⟩ := H4.out.hasR
          have d0 := hr4.c0
          have d1 := hr4.c1
          by_cases hin : S'.is x
          · obtain ⟨kk, rfl⟩ := Int.eq_ofNat_of_zero_le hin.1
            have hkk : kk < S'.secs.length := by have := hin.2; omega
            have HIS := hid (decide_eq_true hin)
            obtain ⟨mk, hmk⟩ : ∃ mk, S'.secs[kk].marked = mk := ⟨_, rfl⟩
            obtain ⟨ls, hls⟩ : ∃ ls, S'.secs[kk].lasts = ls := ⟨_, rfl⟩
            have d2 := hr4.mc kk hkk
            have d3 := hr4.lc kk hkk
            rw [hmk] at d2
            rw [hls] at d3
            have HMK : Hid ((decide (S'.is (kk : Int)) && (S'.secs.getD (kk : Int).toNat ⟨[], false⟩).marked) = mk) := hid (by rw [decide_eq_true hin, ← hmk]; simp [hkk])
            have HLS : Hid ((if S'.is (kk : Int) then (S'.secs.getD (kk : Int).toNat ⟨[], false⟩).lasts else []) = ls) := hid (by rw [if_pos hin, ← hls]; simp [hkk])
            have hb1 : (kk : Int) < (S'.secs.length : Int) := by omega
            have hb2 : (0 : Int) ≤ (kk : Int) := by omega
            clear hmk hls hin hr4
            unfold str at d3
            go_quiet (first | (go_at_call 19; exact quiet_of (tw_marked (H4.out.fr (frN _ _)) (kk : Int) HMK.out)) | (go_at_call 21; exact quiet_of (tw_lasts (H4.out.fr (frN _ _)) (kk : Int) HLS.out)) | (go_at_call 20; exact quiet_of (tw_is (H4.out.fr (frN _ _)) (kk : Int) HIS.out)))
            go_wp2_with fail
            go_roundw
            case rel => exact ⟨(kk : Int) + 1, by go_num, by omega, by omega, H4.out.fr (frN _ _)⟩
            case measure => simp; omega
          · have HIS := hid (decide_eq_false hin)
            have HMK : Hid ((decide (S'.is x) && (S'.secs.getD x.toNat ⟨[], false⟩).marked) = false) := hid (by rw [decide_eq_false hin]; rfl)
            have HLS : Hid ((if S'.is x then (S'.secs.getD x.toNat ⟨[], false⟩).lasts else []) = []) := hid (if_neg hin)
            clear hin hr4
            go_quiet (first | (go_at_call 19; exact quiet_of (tw_marked (H4.out.fr (frN _ _)) x HMK.out)) | (go_at_call 21; exact quiet_of (tw_lasts (H4.out.fr (frN _ _)) x HLS.out)) | (go_at_call 20; exact quiet_of (tw_is (H4.out.fr (frN _ _)) x HIS.out)))
            go_wp2_with fail
            go_roundw
            case rel => exact ⟨x + 1, by go_num, by omega, by omega, H4.out.fr (frN _ _)⟩
            case measure => simp; omega
        · go_wp2_with fail
          go_roundw
          case rel => exact ⟨k + 1, S', by go_num, by omega, by omega, HW.out, by have := HDID.out.count; omega, hln⟩
          case measure => simp [intOf]; omega
    · have hend : (l : Int) ≤ (k : Int) ∨ k = 60 := by
        by_cases h3 : k < XS.length
        · right; omega
        · left; have := HL.out; omega
      have hdec : (decide ((k : Int) < (l : Int)) && decide ((k : Int) < 60)) = false := by
        rcases hend with h3 | h3
        · simp [show ¬ (k : Int) < (l : Int) by omega]
        · simp [h3]
      rcases hend with hend | rfl
      · have hd1 : decide ((k : Int) < (l : Int)) = false := by simp; omega
        go_wp2_with fail
        all_goals (go_ret; exact ⟨rfl, HF.out.trans HTW.out.frame (by simp)⟩)
      · by_cases h4 : (60 : Int) < (l : Int)
        · go_wp2_with fail
          all_goals (go_ret; exact ⟨rfl, HF.out.trans HTW.out.frame (by simp)⟩)
        · have hd1 : decide ((60 : Int) < (l : Int)) = false := by simp; omega
          go_wp2_with fail
          all_goals (go_ret; exact ⟨rfl, HF.out.trans HTW.out.frame (by simp)⟩)
end Go.Proofs.Ytdkgpjmehdpliaa
