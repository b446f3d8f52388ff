/-
  The walk of SuperPlays.
-/
import Derived.Test.YtogchfpecbmocaaTx
import Derived.Test.YtogchfpecbmocaaOpP
import Derived.Deep.CutRange
import Derived.Deep.DeepCutAuto
import Derived.Deep.CutBlock
namespace Go.Proofs.Ytogchfpecbmocaa
open Go.RowKit
set_option maxRecDepth 10000

def ac0 : Ac := ⟨0, su0, 0, 0, 0, none, 0, []⟩
theorem actSize : (Try.prog.info? 46).map (·.size) = some 22 := by kernel_rfl
theorem ac_one (x : Ac) : x.cells.toArray.all (·.oneCell') = true := by
  have := SC_one x.s
  rw [Array.all_eq_true']
  intro u hu
  simp only [Ac.cells, List.mem_toArray, List.mem_cons, List.mem_append, List.not_mem_nil, or_false] at hu
  rcases hu with rfl | hu | rfl | rfl | rfl | rfl
  · rfl
  · exact this u hu
  all_goals rfl
theorem ac_range {w : World} {g : Nat} {e : TypeId} {x : Ac} (h : Row w g e x.cells) : w.rangeAt g 1 (SC x.s) := fun j v hv => by
  have hj : j < (SC x.s).length := (List.getElem?_eq_some_iff.1 hv).1
  rw [h.cell, Nat.add_comm 1 j]
  show (SC x.s ++ _)[j]? = some v
  rw [List.getElem?_append_left hj]
  exact hv
/-- what an act does -/
def actU (S : Sp) (x : Ac) : Sp × Int :=
  if x.kind = 1 then writeU S x.s else if x.kind = 2 then S.fuse x.n else if x.kind = 3 then S.cut else if x.kind = 4 then S.start x.picks
  else if x.kind = 5 then S.rot x.i x.at_ x.n else if x.kind = 6 then writeU S (nextU (readU S).1) else (S, 0)
theorem readU_fits (S : Sp) : (readU S).1.fits := by
  have h : ∀ k, (rdK S k).1.fits := by
    intro k
    induction k with
    | zero => exact su0_fits
    | succ k ih =>
      rw [rdK]
      split
      · exact ih
      · split
        · exact su0_fits
        · simp only [stepU]
          split
          · exact hasU_fits _
          · split <;> exact ih
  unfold readU
  split
  · exact h 4
  · split
    · exact su0_fits
    · exact h 4
theorem act_count (S : Sp) (x : Ac) : (actU S x).1.count ≤ S.count + 8 := by
  have h1 := writeU_count S x.s
  have h2 := writeU_count S (nextU (readU S).1)
  unfold actU
  split
  · exact h1
  split
  · unfold Sp.fuse; split <;> simp
  split
  · unfold Sp.cut; split <;> simp
  split
  · unfold Sp.start; split <;> simp
  split
  · unfold Sp.rot
    split
    · simp
    · split
      · simp
      · split <;> simp
  split
  · exact h2
  · simp
set_option maxHeartbeats 16000000 in
theorem plays_law (A : Option Addr) (n c : Nat) (XS : List Ac) (w : World) (hn : n = XS.length) (hm : n ≤ 9223372036854775807) (hXS : ∀ X ∈ XS, X.OK w w.heap.size) (hR : Rd w w.heap.size A (XS.map Ac.cells).flatten) :
    Calls Try.prog 5 #[.slice A n c] w (VE w (.bool true)) := by
  have HZS := hid superSize
  have HZA := hid actSize
  have HAW := hid (fun W => awake_any W)
  have HN := hid (fun W => new4 5 (by omega) (by omega) 5 rfl W)
  have HNR : Hid (∀ W, Calls Try.prog 18 #[.int .i64 5] W fun e w' => ∃ q gl gm cl cm, e = .returned (.tuple #[.pointer (some ⟨q, 0, none⟩), .int .i64 0]) ∧ HasR w' q gl gm cl cm (.slice none 0 0) (Sp.mk0 5) ∧ Fr W w' [] ∧ W.heap.size ≤ q ∧ W.heap.size ≤ gl ∧ W.heap.size ≤ gm) := hid fun W => rnew_yes 5 W (by omega) (by omega)
  have HNX := hid hn
  have HOK := hid hXS
  have HRD := hid hR
  clear hn hXS hR
  go_enter Try.func5, Try.ntmps5
  go_wp2_with (first
    | (go_at_call 8; refine (HAW.out _).mono ?_; rintro e wa ⟨rfl, hba⟩)
    | (go_at_call 17; refine (HN.out _).mono ?_; rintro e w1 ⟨p, gs, rfl, hd⟩)
    | (go_at_call 18; refine (HNR.out _).mono ?_; rintro e w2 ⟨q, gl, gm, cl, cm, rfl, hr, hf, hq1, hq2, hq3⟩))
  have HTX : Hid (Tx wa w2 p gs q gl gm cl cm (Sp.mk0 5) (Sp.mk0 5) []) := hid (by
    obtain ⟨vd, h1, h2, h3, h4⟩ := hd
    have hs := h3.size
    refine ⟨vd, .slice none 0 0, h1.fr hf (by simp), hr, ?_, fun b hb => ⟨h2 b hb, by simp⟩, ?_, h3.trans (hf.below (by simp) h3.size), by simp⟩
    · intro b hb hn
      have := h1.lt b hb
      simp [fpR, Value.ownBlock] at hn
      omega
    · intro b hb
      simp [fpR, Value.ownBlock] at hb
      exact ⟨by omega, by simp⟩)
  have HBA := hid hba
  have HRA : Hid (∀ W, Below wa.heap.size wa W → Rd W w.heap.size A (rows Ac.cells XS)) := hid fun W hW => (HRD.out.below hba (Nat.le_refl _)).below hW hba.size
  have HOA : Hid (∀ X ∈ XS, ∀ W, Below wa.heap.size wa W → Rd W w.heap.size X.A (ints X.picks)) := hid fun X hX W hW => ((HOK.out X hX).rd.below hba (Nat.le_refl _)).below hW hba.size
  have HWS : Hid (w.heap.size ≤ wa.heap.size) := hid hba.size
  clear hba hd hr hf hq1 hq2 hq3 HAW HN HNR HRD
  go_loopw [7] (fun i wr => ∃ (k : Nat) (S : Sp), i = .int .i64 (k : Int) ∧ k ≤ n ∧ k ≤ 30 ∧ Hid (S.count ≤ 8 * k) ∧ Tx wa wr p gs q gl gm cl cm S S []) (fun i _ => 30 - (intOf i).toNat)
  case atStart => exact ⟨0, Sp.mk0 5, rfl, by omega, by omega, hid (Nat.le_refl _), HTX.out⟩
  case round =>
    obtain ⟨k, S, rfl, hk1, hk2, hcnt, htx⟩ := hrel
    have HX := hid htx
    clear htx
    by_cases hkn : k < n
    case neg =>
      go_wp2_with fail
      go_ret
      exact ⟨rfl, HBA.out.trans (HX.out.below.mono HBA.out.size)⟩
    case pos =>
    by_cases hk30 : k < 30
    case neg =>
      go_wp2_with fail
      go_ret
      exact ⟨rfl, HBA.out.trans (HX.out.below.mono HBA.out.size)⟩
    case pos =>
    have hkl : k < XS.length := by rw [← HNX.out]; exact hkn
    obtain ⟨g, o, rfl⟩ := shape_of (HRA.out _ HX.out.below) Ac.len (by omega) (by omega)
    have HRG : Hid (wr.rangeAt g (o + k * 22) (XS[k]).cells) := hid (range_of (HRA.out _ HX.out.below) Ac.len hkl)
    have HOX := hid (HOK.out XS[k] (List.getElem_mem hkl))
    have HOW := hid (HOA.out XS[k] (List.getElem_mem hkl))
    generalize XS[k] = X at *
    have hc1 := hcnt.out
    have hc2 := act_count S X
    have hki : (k : Int) < (n : Int) := by omega
    have hk3i : (k : Int) < 30 := by omega
    have h0k : (0 : Int) ≤ (k : Int) := by omega
    obtain ⟨S1, x, hact⟩ : ∃ S1 x, actU S X = (S1, x) := ⟨_, _, rfl⟩
    rw [hact] at hc2
    have hc2 : S1.count ≤ S.count + 8 := hc2
    have HACT := hid hact
    have HC1 := hid hc1
    have HC2 := hid hc2
    clear hact hc1 hc2
    go_upto_block 2 with (first
      | (refine wpList_load_mid rfl 46 (.tmp 56) rfl g (o + k * 22) rfl X.cells _ HRG.out Try.underlying46 rfl (by rw [Ac.len]; exact HZA.out) ?_)
      | (refine wpl_store_st rfl (.tmp 8) (.tmp 57) rfl (n := 22) HZA.out wr.heap.size ac0.cells.toArray X.cells.toArray rfl rfl (Row.new _ _ _) ?_ (hid rfl) (hid rfl) (ac_one X); intro w3 HR3 HB3; have hx3 := (HX.out.add HB3).1; have r8 : Row w3 wr.heap.size 46 X.cells := (by simpa using HR3); have c0 := r8.at_ 0 (.int .i64 X.kind) rfl; clear HB3 HR3))
    have HX3 := hid hx3
    have HR8 := hid r8
    have HC0 := hid c0
    clear hx3 r8 c0
    generalize hg8 : wr.heap.size = g8 at *
    go_cut [9, 10] (fun a b wx => ∃ W1 : World, W1 = wx ∧ a = .int .i64 x ∧ b = .int .i64 x ∧ Tx wa wx p gs q gl gm cl cm S1 S1 [])
    case first =>
      by_cases hk1 : X.kind = 1
      · have hact := HACT.out
        unfold actU at hact
        rw [if_pos hk1] at hact
        have hc1 := HC1.out
        have hc2 := HC2.out
        have HD : Hid (∀ W, Tx wa W p gs q gl gm cl cm S S [g8] → Calls Try.prog 19 #[.pointer (some ⟨p, 0, none⟩), .agg X.s.cells] W fun e w' => e = .returned (.int .i64 x) ∧ Tx wa w' p gs q gl gm cl cm S1 S [g8] ∧ Ek W w' [g8]) := hid fun W h => tx_write h (by omega) X.s HOX.out.fits hact
        have HE : Hid (∀ W, Tx wa W p gs q gl gm cl cm S1 S [g8] → Calls Try.prog 20 #[.pointer (some ⟨q, 0, none⟩), .agg X.s.cells] W fun e w' => e = .returned (.int .i64 x) ∧ Tx wa w' p gs q gl gm cl cm S1 S1 [g8] ∧ Ek W w' [g8]) := hid fun W h => tx_rwrite h (by omega) X.s HOX.out.fits hact
        have c0 := HC0.out
        have hf1 : (X.kind == 1) = true := by simpa using hk1
        clear hact hc1 hc2 HACT HC1 HC2 hk1
        have r8 := HR8.out
        have hx := HX3.out
        go_wp2_with (first
          | (go_at_call 19; refine (HD.out _ hx).mono ?_; rintro e w4 ⟨rfl, hx4, ek4⟩; have r84 := ek4.row r8 (by simp); clear hx)
          | (go_at_call 20; refine (HE.out _ hx4).mono ?_; rintro e w5 ⟨rfl, hx5, ek5⟩)
          | (refine wpList_load_mid rfl 27 (.tmp 67) rfl g8 1 rfl (SC X.s) _ (ac_range r84) Try.underlying27 rfl (by rw [SC_len]; exact HZS.out) ?_)
          | (refine wpList_load_mid rfl 27 (.tmp 63) rfl g8 1 rfl (SC X.s) _ (ac_range r8) Try.underlying27 rfl (by rw [SC_len]; exact HZS.out) ?_))
        go_meet
        case rel => exact ⟨_, rfl, rfl, rfl, hx5.none⟩
      · by_cases hk2 : X.kind = 2
        · have hact := HACT.out
          unfold actU at hact
          rw [if_neg hk1] at hact
          rw [if_pos hk2] at hact
          have hc1 := HC1.out
          have hc2 := HC2.out
          have HD : Hid (∀ W, Tx wa W p gs q gl gm cl cm S S [g8] → Calls Try.prog 21 #[.pointer (some ⟨p, 0, none⟩), .int .i64 X.n] W fun e w' => e = .returned (.int .i64 x) ∧ Tx wa w' p gs q gl gm cl cm S1 S [g8] ∧ Ek W w' [g8]) := hid fun W h => h.callD fun vd hv => dy_fuse hv X.n HOX.out.n hact
          have HE : Hid (∀ W, Tx wa W p gs q gl gm cl cm S1 S [g8] → Calls Try.prog 22 #[.pointer (some ⟨q, 0, none⟩), .int .i64 X.n] W fun e w' => e = .returned (.int .i64 x) ∧ Tx wa w' p gs q gl gm cl cm S1 S1 [g8] ∧ Ek W w' [g8]) := hid fun W h => h.callR fun vr hv => ry_fuse hv X.n HOX.out.n hact
          have c0 := HC0.out
          have hf1 : (X.kind == 1) = false := by simpa using hk1
          have hf2 : (X.kind == 2) = true := by simpa using hk2
          clear hact hc1 hc2 HACT HC1 HC2 hk1 hk2
          have e20 := HR8.out.at_ 20 (.int .i64 X.n) rfl
          have r8 := HR8.out
          have hx := HX3.out
          go_wp2_with (first
            | (go_at_call 21; refine (HD.out _ hx).mono ?_; rintro e w4 ⟨rfl, hx4, ek4⟩; have r84 := ek4.row r8 (by simp); have d20 := r84.at_ 20 (.int .i64 X.n) rfl; clear hx)
            | (go_at_call 22; refine (HE.out _ hx4).mono ?_; rintro e w5 ⟨rfl, hx5, ek5⟩))
          go_meet
          case rel => exact ⟨_, rfl, rfl, rfl, hx5.none⟩
        · by_cases hk3 : X.kind = 3
          · have hact := HACT.out
            unfold actU at hact
            rw [if_neg hk1] at hact
            rw [if_neg hk2] at hact
            rw [if_pos hk3] at hact
            have hc1 := HC1.out
            have hc2 := HC2.out
            have HD : Hid (∀ W, Tx wa W p gs q gl gm cl cm S S [g8] → Calls Try.prog 23 #[.pointer (some ⟨p, 0, none⟩)] W fun e w' => e = .returned (.int .i64 x) ∧ Tx wa w' p gs q gl gm cl cm S1 S [g8] ∧ Ek W w' [g8]) := hid fun W h => h.callD fun vd hv => dy_cut hv hact
            have HE : Hid (∀ W, Tx wa W p gs q gl gm cl cm S1 S [g8] → Calls Try.prog 24 #[.pointer (some ⟨q, 0, none⟩)] W fun e w' => e = .returned (.int .i64 x) ∧ Tx wa w' p gs q gl gm cl cm S1 S1 [g8] ∧ Ek W w' [g8]) := hid fun W h => h.callR fun vr hv => ry_cut hv hact
            have c0 := HC0.out
            have hf1 : (X.kind == 1) = false := by simpa using hk1
            have hf2 : (X.kind == 2) = false := by simpa using hk2
            have hf3 : (X.kind == 3) = true := by simpa using hk3
            clear hact hc1 hc2 HACT HC1 HC2 hk1 hk2 hk3
            have r8 := HR8.out
            have hx := HX3.out
            go_wp2_with (first
              | (go_at_call 23; refine (HD.out _ hx).mono ?_; rintro e w4 ⟨rfl, hx4, ek4⟩; have r84 := ek4.row r8 (by simp); clear hx)
              | (go_at_call 24; refine (HE.out _ hx4).mono ?_; rintro e w5 ⟨rfl, hx5, ek5⟩))
            go_meet
            case rel => exact ⟨_, rfl, rfl, rfl, hx5.none⟩
          · by_cases hk4 : X.kind = 4
            · have hact := HACT.out
              unfold actU at hact
              rw [if_neg hk1] at hact
              rw [if_neg hk2] at hact
              rw [if_neg hk3] at hact
              rw [if_pos hk4] at hact
              have hc1 := HC1.out
              have hc2 := HC2.out
              have HD : Hid (∀ W, Tx wa W p gs q gl gm cl cm S S [g8] → Calls Try.prog 25 #[.pointer (some ⟨p, 0, none⟩), .slice X.A X.picks.length X.cap] W fun e w' => e = .returned (.int .i64 x) ∧ Tx wa w' p gs q gl gm cl cm S1 S [g8] ∧ Ek W w' [g8]) := hid fun W h => h.callD fun vd hv => dy_start hv (by omega) X.picks X.A X.picks.length X.cap w.heap.size rfl (HOW.out W h.below) HOX.out.p HOX.out.pn (fun hne ga oa hA => by obtain ⟨g', o', e2, hlt, _⟩ := HOW.out W h.below (by intro e; exact hne (by simpa [ints] using e)); rw [hA] at e2; cases e2; have := h.gs_ge; have := HWS.out; omega) hact
              have HE : Hid (∀ W, Tx wa W p gs q gl gm cl cm S1 S [g8] → Calls Try.prog 26 #[.pointer (some ⟨q, 0, none⟩), .slice X.A X.picks.length X.cap] W fun e w' => e = .returned (.int .i64 x) ∧ Tx wa w' p gs q gl gm cl cm S1 S1 [g8] ∧ Ek W w' [g8]) := hid fun W h => h.callR fun vr hv => ry_start hv (by omega) X.picks X.A X.picks.length X.cap w.heap.size rfl (HOW.out W h.below) HOX.out.p HOX.out.pn (fun hne ga oa hA => by obtain ⟨g', o', e2, hlt, _⟩ := HOW.out W h.below (by intro e; exact hne (by simpa [ints] using e)); rw [hA] at e2; cases e2; have := h.gs_ge; have := HWS.out; exact ⟨by omega, by omega⟩) hact
              have c0 := HC0.out
              have hf1 : (X.kind == 1) = false := by simpa using hk1
              have hf2 : (X.kind == 2) = false := by simpa using hk2
              have hf3 : (X.kind == 3) = false := by simpa using hk3
              have hf4 : (X.kind == 4) = true := by simpa using hk4
              clear hact hc1 hc2 HACT HC1 HC2 hk1 hk2 hk3 hk4
              have e21 := HR8.out.at_ 21 (.slice X.A X.picks.length X.cap) rfl
              have r8 := HR8.out
              have hx := HX3.out
              go_wp2_with (first
                | (go_at_call 25; refine (HD.out _ hx).mono ?_; rintro e w4 ⟨rfl, hx4, ek4⟩; have r84 := ek4.row r8 (by simp); have d21 := r84.at_ 21 (.slice X.A X.picks.length X.cap) rfl; clear hx)
                | (go_at_call 26; refine (HE.out _ hx4).mono ?_; rintro e w5 ⟨rfl, hx5, ek5⟩))
              go_meet
              case rel => exact ⟨_, rfl, rfl, rfl, hx5.none⟩
            · by_cases hk5 : X.kind = 5
              · have hact := HACT.out
                unfold actU at hact
                rw [if_neg hk1] at hact
                rw [if_neg hk2] at hact
                rw [if_neg hk3] at hact
                rw [if_neg hk4] at hact
                rw [if_pos hk5] at hact
                have hc1 := HC1.out
                have hc2 := HC2.out
                have HD : Hid (∀ W, Tx wa W p gs q gl gm cl cm S S [g8] → Calls Try.prog 27 #[.pointer (some ⟨p, 0, none⟩), .int .i64 X.i, .int .i64 X.at_, .int .i64 X.n] W fun e w' => e = .returned (.int .i64 x) ∧ Tx wa w' p gs q gl gm cl cm S1 S [g8] ∧ Ek W w' [g8]) := hid fun W h => h.callD fun vd hv => dy_rot hv (by omega) _ _ _ hact
                have HE : Hid (∀ W, Tx wa W p gs q gl gm cl cm S1 S [g8] → Calls Try.prog 28 #[.pointer (some ⟨q, 0, none⟩), .int .i64 X.i, .int .i64 X.at_, .int .i64 X.n] W fun e w' => e = .returned (.int .i64 x) ∧ Tx wa w' p gs q gl gm cl cm S1 S1 [g8] ∧ Ek W w' [g8]) := hid fun W h => h.callR fun vr hv => ry_rot hv (by omega) _ _ _ hact
                have c0 := HC0.out
                have hf1 : (X.kind == 1) = false := by simpa using hk1
                have hf2 : (X.kind == 2) = false := by simpa using hk2
                have hf3 : (X.kind == 3) = false := by simpa using hk3
                have hf4 : (X.kind == 4) = false := by simpa using hk4
                have hf5 : (X.kind == 5) = true := by simpa using hk5
                clear hact hc1 hc2 HACT HC1 HC2 hk1 hk2 hk3 hk4 hk5
                have e18 := HR8.out.at_ 18 (.int .i64 X.i) rfl
                have e19 := HR8.out.at_ 19 (.int .i64 X.at_) rfl
                have e20 := HR8.out.at_ 20 (.int .i64 X.n) rfl
                have r8 := HR8.out
                have hx := HX3.out
                go_wp2_with (first
                  | (go_at_call 27; refine (HD.out _ hx).mono ?_; rintro e w4 ⟨rfl, hx4, ek4⟩; have r84 := ek4.row r8 (by simp); have d18 := r84.at_ 18 (.int .i64 X.i) rfl; have d19 := r84.at_ 19 (.int .i64 X.at_) rfl; have d20 := r84.at_ 20 (.int .i64 X.n) rfl; clear hx)
                  | (go_at_call 28; refine (HE.out _ hx4).mono ?_; rintro e w5 ⟨rfl, hx5, ek5⟩))
                go_meet
                case rel => exact ⟨_, rfl, rfl, rfl, hx5.none⟩
              · by_cases hk6 : X.kind = 6
                · have hact := HACT.out
                  unfold actU at hact
                  rw [if_neg hk1] at hact
                  rw [if_neg hk2] at hact
                  rw [if_neg hk3] at hact
                  rw [if_neg hk4] at hact
                  rw [if_neg hk5] at hact
                  rw [if_pos hk6] at hact
                  have hc1 := HC1.out
                  have hc2 := HC2.out
                  obtain ⟨t, m, y, hrd⟩ : ∃ t m y, readU S = (t, m, y) := ⟨_, _, _, rfl⟩
                  have htf := readU_fits S
                  rw [hrd] at hact htf
                  have htf : t.fits := htf
                  have hact : writeU S (nextU t) = (S1, x) := hact
                  have HNXT : Hid (∀ W, Calls Try.prog 13 #[.agg t.cells] W (VE W (.agg (nextU t).cells))) := hid fun W => snext_any t htf W
                  have HRNX : Hid (∀ W, Calls Try.prog 14 #[.agg t.cells] W (VE W (.agg (nextU t).cells))) := hid fun W => rnext_any t htf W
                  have hnf := nextU_fits t htf
                  have HRE : Hid (∀ W G, Tx wa W p gs q gl gm cl cm S S G → Calls Try.prog 29 #[.pointer (some ⟨p, 0, none⟩)] W fun e w' => e = .returned (.tuple #[.agg t.cells, .int .i64 (m : Int), .int .i64 y]) ∧ Tx wa w' p gs q gl gm cl cm S S G ∧ Ek W w' G) := hid fun W G h => tx_read h (by omega) hrd
                  have HRR : Hid (∀ W G, Tx wa W p gs q gl gm cl cm S S G → Calls Try.prog 30 #[.pointer (some ⟨q, 0, none⟩)] W fun e w' => e = .returned (.tuple #[.agg t.cells, .int .i64 (m : Int), .int .i64 y]) ∧ Tx wa w' p gs q gl gm cl cm S S G ∧ Ek W w' G) := hid fun W G h => tx_rread h (by omega) hrd
                  have HD : Hid (∀ W G, Tx wa W p gs q gl gm cl cm S S G → Calls Try.prog 19 #[.pointer (some ⟨p, 0, none⟩), .agg (nextU t).cells] W fun e w' => e = .returned (.int .i64 x) ∧ Tx wa w' p gs q gl gm cl cm S1 S G ∧ Ek W w' G) := hid fun W G h => tx_write h (by omega) _ hnf hact
                  have HE : Hid (∀ W G, Tx wa W p gs q gl gm cl cm S1 S G → Calls Try.prog 20 #[.pointer (some ⟨q, 0, none⟩), .agg (nextU t).cells] W fun e w' => e = .returned (.int .i64 x) ∧ Tx wa w' p gs q gl gm cl cm S1 S1 G ∧ Ek W w' G) := hid fun W G h => tx_rwrite h (by omega) _ hnf hact
                  clear hrd htf hnf
                  generalize nextU t = nt at *
                  have c0 := HC0.out
                  have hf1 : (X.kind == 1) = false := by simpa using hk1
                  have hf2 : (X.kind == 2) = false := by simpa using hk2
                  have hf3 : (X.kind == 3) = false := by simpa using hk3
                  have hf4 : (X.kind == 4) = false := by simpa using hk4
                  have hf5 : (X.kind == 5) = false := by simpa using hk5
                  have hf6 : (X.kind == 6) = true := by simpa using hk6
                  clear hact hc1 hc2 HACT HC1 HC2 hk1 hk2 hk3 hk4 hk5 hk6
                  have r8 := HR8.out
                  have hx := HX3.out
                  go_wp2_with (first
                    | (go_at_call 20; refine (HE.out _ _ xj).mono ?_; rintro e wk ⟨rfl, xk, ekk⟩)
                    | (go_at_call 14; refine (HRNX.out _).mono ?_; rintro e wj ⟨rfl, hbj⟩; obtain ⟨xj, ekj⟩ := xi.new hbj)
                    | (refine wpl_load_want rfl 27 (.tmp 14) rfl wd.heap.size rfl 27 t.cells (0, 0) _ ri14.arr Try.underlying27 rfl HZS.out ?_)
                    | (go_at_call 19; refine (HD.out _ _ xh).mono ?_; rintro e wi ⟨rfl, xi, eki⟩; have ri14 := eki.row rh14 (by simp))
                    | (go_at_call 13; refine (HNXT.out _).mono ?_; rintro e wh ⟨rfl, hbh⟩; obtain ⟨xh, ekh⟩ := xg.new hbh; have rh14 := ekh.row HRwg (by simp))
                    | (refine wpl_load_want rfl 27 (.tmp 11) rfl wb.heap.size rfl 27 t.cells (0, 0) _ rg11.arr Try.underlying27 rfl HZS.out ?_)
                    | (refine wpl_store_st rfl (.tmp 14) (.tmp 125) rfl (n := 17) HZS.out wd.heap.size su0.cells t.cells rfl rfl (Row.new _ _ _) ?_ (hid rfl) (hid rfl) (cells_one _); intro wg HRwg HBwg; obtain ⟨xg, ekg⟩ := xd.add HBwg; have rg11 := ekg.row rd11 (by simp))
                    | (go_at_call 30; refine (HRR.out _ _ xc).mono ?_; rintro e wd ⟨rfl, xd, ekd⟩; have rd11 := ekd.row HRwc (by simp))
                    | (refine wpl_store_st rfl (.tmp 11) (.tmp 119) rfl (n := 17) HZS.out wb.heap.size su0.cells t.cells rfl rfl (Row.new _ _ _) ?_ (hid rfl) (hid rfl) (cells_one _); intro wc HRwc HBwc; obtain ⟨xc, ekc⟩ := xb.add HBwc)
                    | (go_at_call 29; refine (HRE.out _ _ hx).mono ?_; rintro e wb ⟨rfl, xb, ekb⟩))
                  go_meet
                  case rel => exact ⟨_, rfl, rfl, rfl, xk.none⟩
                · have hact := HACT.out
                  unfold actU at hact
                  rw [if_neg hk1] at hact
                  rw [if_neg hk2] at hact
                  rw [if_neg hk3] at hact
                  rw [if_neg hk4] at hact
                  rw [if_neg hk5] at hact
                  rw [if_neg hk6] at hact
                  have hc1 := HC1.out
                  have hc2 := HC2.out
                  obtain ⟨rfl, rfl⟩ := Prod.mk.inj hact
                  have c0 := HC0.out
                  have hf1 : (X.kind == 1) = false := by simpa using hk1
                  have hf2 : (X.kind == 2) = false := by simpa using hk2
                  have hf3 : (X.kind == 3) = false := by simpa using hk3
                  have hf4 : (X.kind == 4) = false := by simpa using hk4
                  have hf5 : (X.kind == 5) = false := by simpa using hk5
                  have hf6 : (X.kind == 6) = false := by simpa using hk6
                  clear hact hc1 hc2 HACT HC1 HC2 hk1 hk2 hk3 hk4 hk5 hk6
                  have r8 := HR8.out
                  have hx := HX3.out
                  go_wp2_with fail
                  go_meet
                  case rel => exact ⟨_, rfl, rfl, rfl, hx.none⟩
    case rest =>
    obtain ⟨W1, rfl, rfl, rfl, htx1⟩ := hcut
    have hc1 := HC1.out
    have hc2 := HC2.out
    obtain ⟨t, m, y, hrd⟩ : ∃ t m y, readU S1 = (t, m, y) := ⟨_, _, _, rfl⟩
    have HRE : Hid (∀ W G, Tx wa W p gs q gl gm cl cm S1 S1 G → Calls Try.prog 29 #[.pointer (some ⟨p, 0, none⟩)] W fun e w' => e = .returned (.tuple #[.agg t.cells, .int .i64 (m : Int), .int .i64 y]) ∧ Tx wa w' p gs q gl gm cl cm S1 S1 G ∧ Ek W w' G) := hid fun W G h => tx_read h (by omega) hrd
    have HRR : Hid (∀ W G, Tx wa W p gs q gl gm cl cm S1 S1 G → Calls Try.prog 30 #[.pointer (some ⟨q, 0, none⟩)] W fun e w' => e = .returned (.tuple #[.agg t.cells, .int .i64 (m : Int), .int .i64 y]) ∧ Tx wa w' p gs q gl gm cl cm S1 S1 G ∧ Ek W w' G) := hid fun W G h => tx_rread h (by omega) hrd
    have HST : Hid (∀ W G, Tx wa W p gs q gl gm cl cm S1 S1 G → Calls Try.prog 31 #[.pointer (some ⟨p, 0, none⟩)] W fun e w' => e = .returned (.int .i64 (S1.count : Int)) ∧ w' = W) := hid fun W G h => by
      obtain ⟨vd, hd⟩ := h.hasD
      exact (steps_any p gs vd S1 W hd).mono fun _ _ ⟨a, b⟩ => ⟨a, b.symm⟩
    have HON : Hid (∀ W G, Tx wa W p gs q gl gm cl cm S1 S1 G → Calls Try.prog 32 #[.pointer (some ⟨p, 0, none⟩)] W fun e w' => e = .returned (.bool S1.on) ∧ w' = W) := hid fun W G h => by
      obtain ⟨vd, hd⟩ := h.hasD
      exact (on_any p gs vd S1 W hd).mono fun _ _ ⟨a, b⟩ => ⟨a, b.symm⟩
    have HRD1 : Hid (∀ W G, Tx wa W p gs q gl gm cl cm S1 S1 G → ∀ j : Nat, Calls Try.prog 33 #[.pointer (some ⟨p, 0, none⟩), .int .i64 (j : Int)] W fun e w' => e = .returned (.tuple #[.string ⟨(S1.read j).1.toArray⟩, .int .i64 (S1.read j).2]) ∧ Tx wa w' p gs q gl gm cl cm S1 S1 G ∧ Ek W w' G) := hid fun W G h j => by
      obtain ⟨vd, hd⟩ := h.hasD
      refine h.look ((read_any p gs vd S1 j W hd (by omega)).mono ?_)
      rintro e w' ⟨h1, nn, rfl⟩
      exact ⟨h1, rfl, rfl, rfl, Nat.le_refl _, fun _ _ => rfl⟩
    have HRD2 : Hid (∀ W G, Tx wa W p gs q gl gm cl cm S1 S1 G → ∀ j : Nat, Calls Try.prog 34 #[.pointer (some ⟨q, 0, none⟩), .int .i64 (j : Int)] W fun e w' => e = .returned (.tuple #[.string ⟨(S1.read j).1.toArray⟩, .int .i64 (S1.read j).2]) ∧ w' = W) := hid fun W G h j => by
      obtain ⟨vr, hr⟩ := h.hasR
      exact (rread_any q gl gm cl cm vr S1 j W hr (by omega)).mono fun _ _ ⟨a, b⟩ => ⟨a, b.symm⟩
    have HNEX : Hid (S1.count ≤ 8 * (k + 1)) := hid (by omega)
    clear hrd hc1 hc2 HACT HC1 HC2 HOX HOW HOK HOA HRG HR8 HC0 HX3 hg8
    have hx := htx1
    clear htx1
    go_wp2_with (first
      | (refine wpl_store_st rfl (.tmp 20) (.tmp 145) rfl (n := 17) HZS.out wd.heap.size su0.cells t.cells rfl rfl (Row.new _ _ _) ?_ (hid rfl) (hid rfl) (cells_one _); intro wg HRwg HBwg; obtain ⟨xg, ekg⟩ := xd.add HBwg; have rg17 := ekg.row rd17 (by simp))
      | (go_at_call 30; refine (HRR.out _ _ xc).mono ?_; rintro e wd ⟨rfl, xd, ekd⟩; have rd17 := ekd.row HRwc (by simp))
      | (refine wpl_store_st rfl (.tmp 17) (.tmp 139) rfl (n := 17) HZS.out wb.heap.size su0.cells t.cells rfl rfl (Row.new _ _ _) ?_ (hid rfl) (hid rfl) (cells_one _); intro wc HRwc HBwc; obtain ⟨xc, ekc⟩ := xb.add HBwc)
      | (go_at_call 29; refine (HRE.out _ _ hx).mono ?_; rintro e wb ⟨rfl, xb, ekb⟩))
    have HXG := hid xg
    obtain ⟨vr, hvr⟩ := xg.hasR
    have q3 := hvr.c3
    have q5 := hvr.c5
    have HGA := hid rg17
    have HGB := hid HRwg
    have Q3 := hid q3
    have Q5 := hid q5
    have HNB : Hid ((S1.on == !S1.on) = false) := hid (by cases S1.on <;> rfl)
    clear hx xb ekb xc ekc xd ekd rd17 xg ekg hvr q3 q5 HBwc HBwg HRwc rg17 HRwg
    refine wp_region_held_drew (S := fun W => Row W wb.heap.size 27 t.cells.toList ∧ Row W wd.heap.size 27 t.cells.toList ∧ W.cell? ⟨q, 5, none⟩ = some (.int .i64 (S1.count : Int)) ∧ W.cell? ⟨q, 3, none⟩ = some (.bool (!S1.on))) (by kernel_rfl) (⟨HGA.out.drew, HGB.out.drew, Q5.out, Q3.out⟩) (fun hH => ?_)
    refine wpAnyH_take (i := 0) (v := .int .i64 x) rfl (by kernel_rfl) (by kernel_rfl) (by kernel_rfl) (fun _ _ _ h => h) (Or.inl ⟨by rfl, fun w' hw' => by clear hw'; go_simp⟩) hH ?_
    simp only [Act.put]
    refine wpAnyH_take (i := 1) (v := .int .i64 x) rfl (by kernel_rfl) (by kernel_rfl) (by kernel_rfl) (fun _ _ _ h => h) (Or.inl ⟨by rfl, fun w' hw' => by clear hw'; go_simp⟩) hH ?_
    simp only [Act.put]
    refine wpAnyH_take (i := 2) (v := .bool false) rfl (by kernel_rfl) (by kernel_rfl) (by kernel_rfl) (fun _ _ _ h => h) (Or.inl ⟨by rfl, fun w' hw' => by clear hw'; go_simp⟩) hH ?_
    simp only [Act.put]
    refine wpAnyH_take (i := 3) (v := .bool false) rfl (by kernel_rfl) (by kernel_rfl) (by kernel_rfl) (fun _ _ _ h => h) (Or.inl ⟨by rfl, fun w' hw' => by clear hw'; go_simp⟩) hH ?_
    simp only [Act.put]
    refine wpAnyH_take (i := 4) (v := .agg t.cells) rfl (by kernel_rfl) (by kernel_rfl) (by kernel_rfl) (fun _ _ _ h => h) ?_ hH ?_
    · refine yieldsIf_load_mid ?_ 27 (.tmp 17) ?_ wb.heap.size 0 ?_ (Array.toList t.cells) _ (fun W hW => Row.range (hW.1)) Try.underlying27 rfl (by exact HZS.out)
      all_goals kernel_rfl
    simp only [Act.put]
    refine wpAnyH_take (i := 5) (v := .agg t.cells) rfl (by kernel_rfl) (by kernel_rfl) (by kernel_rfl) (fun _ _ _ h => h) ?_ hH ?_
    · refine yieldsIf_load_mid ?_ 27 (.tmp 20) ?_ wd.heap.size 0 ?_ (Array.toList t.cells) _ (fun W hW => Row.range (hW.2.1)) Try.underlying27 rfl (by exact HZS.out)
      all_goals kernel_rfl
    simp only [Act.put]
    refine wpAnyH_take (i := 6) (v := .bool (!true)) rfl (by kernel_rfl) (by kernel_rfl) (by kernel_rfl) (fun _ _ _ h => h) (yields_nesu (by kernel_rfl) t t true (by simp) (.tmp 152) (.tmp 153) _ rfl (by kernel_rfl) (by kernel_rfl)) hH ?_
    simp only [Act.put]
    refine wpAnyH_take (i := 7) (v := .bool false) rfl (by kernel_rfl) (by kernel_rfl) (by kernel_rfl) (fun _ _ _ h => h) (Or.inl ⟨by kernel_rfl, fun w' _ => by kernel_rfl⟩) hH ?_
    simp only [Act.put]
    refine wpAnyH_take (i := 8) (v := .bool false) rfl (by kernel_rfl) (by kernel_rfl) (by kernel_rfl) (fun _ _ _ h => h) (Or.inl ⟨by kernel_rfl, fun w' _ => by kernel_rfl⟩) hH ?_
    simp only [Act.put]
    refine wpAnyH_take (i := 9) (v := .int .i64 (m : Int)) rfl (by kernel_rfl) (by kernel_rfl) (by kernel_rfl) (fun _ _ _ h => h) (Or.inl ⟨by kernel_rfl, fun w' hw' => by clear hw'; go_simp⟩) hH ?_
    simp only [Act.put]
    refine wpAnyH_take (i := 10) (v := .int .i64 (m : Int)) rfl (by kernel_rfl) (by kernel_rfl) (by kernel_rfl) (fun _ _ _ h => h) (Or.inl ⟨by kernel_rfl, fun w' hw' => by clear hw'; go_simp⟩) hH ?_
    simp only [Act.put]
    refine wpAnyH_take (i := 11) (v := .bool false) rfl (by kernel_rfl) (by kernel_rfl) (by kernel_rfl) (fun _ _ _ h => h) (Or.inl ⟨by kernel_rfl, fun w' hw' => by clear hw'; go_simp⟩) hH ?_
    simp only [Act.put]
    refine wpAnyH_take (i := 12) (v := .bool false) rfl (by kernel_rfl) (by kernel_rfl) (by kernel_rfl) (fun _ _ _ h => h) (Or.inl ⟨by rfl, fun w' hw' => by clear hw'; go_simp⟩) hH ?_
    simp only [Act.put]
    refine wpAnyH_take (i := 13) (v := .bool false) rfl (by kernel_rfl) (by kernel_rfl) (by kernel_rfl) (fun _ _ _ h => h) (Or.inl ⟨by rfl, fun w' hw' => by clear hw'; go_simp⟩) hH ?_
    simp only [Act.put]
    refine wpAnyH_take (i := 14) (v := .int .i64 y) rfl (by kernel_rfl) (by kernel_rfl) (by kernel_rfl) (fun _ _ _ h => h) (Or.inl ⟨by kernel_rfl, fun w' hw' => by clear hw'; go_simp⟩) hH ?_
    simp only [Act.put]
    refine wpAnyH_take (i := 15) (v := .int .i64 y) rfl (by kernel_rfl) (by kernel_rfl) (by kernel_rfl) (fun _ _ _ h => h) (Or.inl ⟨by kernel_rfl, fun w' hw' => by clear hw'; go_simp⟩) hH ?_
    simp only [Act.put]
    refine wpAnyH_take (i := 16) (v := .bool false) rfl (by kernel_rfl) (by kernel_rfl) (by kernel_rfl) (fun _ _ _ h => h) (Or.inl ⟨by kernel_rfl, fun w' hw' => by clear hw'; go_simp⟩) hH ?_
    simp only [Act.put]
    refine wpAnyH_take (i := 17) (v := .bool false) rfl (by kernel_rfl) (by kernel_rfl) (by kernel_rfl) (fun _ _ _ h => h) (Or.inl ⟨by rfl, fun w' hw' => by clear hw'; go_simp⟩) hH ?_
    simp only [Act.put]
    refine wpAnyH_take (i := 18) (v := .bool false) rfl (by kernel_rfl) (by kernel_rfl) (by kernel_rfl) (fun _ _ _ h => h) (Or.inl ⟨by rfl, fun w' hw' => by clear hw'; go_simp⟩) hH ?_
    simp only [Act.put]
    refine wpAnyH_take (i := 19) (v := .pointer (some ⟨p, 0, none⟩)) rfl (by kernel_rfl) (by kernel_rfl) (by kernel_rfl) (fun _ _ _ h => h) (Or.inl ⟨by kernel_rfl, fun w' hw' => by clear hw'; go_simp⟩) hH ?_
    simp only [Act.put]
    refine wpAnyH_take (i := 21) (v := .pointer (some ⟨q, 0, none⟩)) rfl (by kernel_rfl) (by kernel_rfl) (by kernel_rfl) (fun _ _ _ h => h) (Or.inl ⟨by kernel_rfl, fun w' hw' => by clear hw'; go_simp⟩) hH ?_
    simp only [Act.put]
    refine wpAnyH_take (i := 22) (v := .pointer (some ⟨q, 0, none⟩)) rfl (by kernel_rfl) (by kernel_rfl) (by kernel_rfl) (fun _ _ _ h => h) (Or.inl ⟨by kernel_rfl, fun w' hw' => by clear hw'; go_simp⟩) hH ?_
    simp only [Act.put]
    refine wpAnyH_take (i := 23) (v := .pointer (some ⟨q, 5, none⟩)) rfl (by kernel_rfl) (by kernel_rfl) (by kernel_rfl) (fun _ _ _ h => h) (Or.inl ⟨by kernel_rfl, fun w' hw' => by clear hw'; go_simp⟩) hH ?_
    simp only [Act.put]
    refine wpAnyH_take (i := 24) (v := .int .i64 (S1.count : Int)) rfl (by kernel_rfl) (by kernel_rfl) (by kernel_rfl) (fun _ _ _ h => h) (Or.inl ⟨by kernel_rfl, fun w' hw' => by have h := hw'.2.2.1; go_simp⟩) hH ?_
    simp only [Act.put]
    refine wpAnyH_ready (rs := [20]) (by kernel_rfl) (by simp) ?_
    refine AllReadyH.cons rfl (fun K hK => ?_) AllReadyH.nil
    rw [if_pos (by kernel_rfl)]
    go_simp
    go_at_call 31
    refine (HST.out _ _ HXG.out.drew).mono ?_
    rintro e w9 ⟨rfl, rfl⟩
    go_wp2_with fail
    refine hK.out _ _ (hH) (fun hH => ?_)
    clear hK K
    try simp only [Act.put]
    refine wpAnyH_take (i := 25) (v := .bool false) rfl (by kernel_rfl) (by kernel_rfl) (by kernel_rfl) (fun _ _ _ h => h) (Or.inl ⟨by kernel_rfl, fun w' hw' => by clear hw'; go_simp⟩) hH ?_
    simp only [Act.put]
    refine wpAnyH_take (i := 26) (v := .bool false) rfl (by kernel_rfl) (by kernel_rfl) (by kernel_rfl) (fun _ _ _ h => h) (Or.inl ⟨by rfl, fun w' hw' => by clear hw'; go_simp⟩) hH ?_
    simp only [Act.put]
    refine wpAnyH_take (i := 27) (v := .bool false) rfl (by kernel_rfl) (by kernel_rfl) (by kernel_rfl) (fun _ _ _ h => h) (Or.inl ⟨by rfl, fun w' hw' => by clear hw'; go_simp⟩) hH ?_
    simp only [Act.put]
    refine wpAnyH_take (i := 28) (v := .pointer (some ⟨p, 0, none⟩)) rfl (by kernel_rfl) (by kernel_rfl) (by kernel_rfl) (fun _ _ _ h => h) (Or.inl ⟨by kernel_rfl, fun w' hw' => by clear hw'; go_simp⟩) hH ?_
    simp only [Act.put]
    refine wpAnyH_take (i := 30) (v := .pointer (some ⟨q, 0, none⟩)) rfl (by kernel_rfl) (by kernel_rfl) (by kernel_rfl) (fun _ _ _ h => h) (Or.inl ⟨by kernel_rfl, fun w' hw' => by clear hw'; go_simp⟩) hH ?_
    simp only [Act.put]
    refine wpAnyH_take (i := 31) (v := .pointer (some ⟨q, 0, none⟩)) rfl (by kernel_rfl) (by kernel_rfl) (by kernel_rfl) (fun _ _ _ h => h) (Or.inl ⟨by kernel_rfl, fun w' hw' => by clear hw'; go_simp⟩) hH ?_
    simp only [Act.put]
    refine wpAnyH_take (i := 32) (v := .pointer (some ⟨q, 3, none⟩)) rfl (by kernel_rfl) (by kernel_rfl) (by kernel_rfl) (fun _ _ _ h => h) (Or.inl ⟨by kernel_rfl, fun w' hw' => by clear hw'; go_simp⟩) hH ?_
    simp only [Act.put]
    refine wpAnyH_take (i := 33) (v := .bool (!S1.on)) rfl (by kernel_rfl) (by kernel_rfl) (by kernel_rfl) (fun _ _ _ h => h) (Or.inl ⟨by kernel_rfl, fun w' hw' => by have h := hw'.2.2.2; go_simp⟩) hH ?_
    simp only [Act.put]
    refine wpAnyH_ready (rs := [29]) (by kernel_rfl) (by simp) ?_
    refine AllReadyH.cons rfl (fun K hK => ?_) AllReadyH.nil
    rw [if_pos (by kernel_rfl)]
    go_simp
    go_at_call 32
    refine (HON.out _ _ HXG.out.drew).mono ?_
    rintro e w9 ⟨rfl, rfl⟩
    go_wp2_with fail
    refine hK.out _ _ (hH) (fun hH => ?_)
    clear hK K
    try simp only [Act.put]
    refine wpAnyH_take (i := 34) (v := .bool false) rfl (by kernel_rfl) (by kernel_rfl) (by kernel_rfl) (fun _ _ _ h => h) (Or.inl ⟨by kernel_rfl, fun w' hw' => by have h := HNB.out; go_simp⟩) hH ?_
    simp only [Act.put]
    refine wpAnyH_ready (rs := [35]) (by kernel_rfl) (by simp) ?_
    refine AllReadyH.cons rfl (fun K hK => ?_) AllReadyH.nil
    go_simp
    refine hK.out _ _ (hH) (fun hH => ?_)
    clear hK K
    try simp only [Act.put]
    refine wpAnyH_done (by kernel_rfl) ?_ _
    try simp only [Act.put]
    have HXD := hid HXG.out.drew.none
    clear hH HXG HGA HGB Q3 Q5 HST HON HRE HRR
    go_wp2_with fail
    go_loopw [23] (fun i wz => ∃ j : Nat, j ≤ 5 ∧ i = .int .i64 (j : Int) ∧ Tx wa wz p gs q gl gm cl cm S1 S1 []) (fun i _ => 5 - (intOf i).toNat)
    case atStart => exact ⟨0, Nat.zero_le _, rfl, HXD.out⟩
    case round =>
      obtain ⟨j, hj, rfl, hxz⟩ := hrel
      have HZ := hid hxz
      clear hxz
      by_cases hj5 : j < 5
      · have HA1 := hid (fun W G h => HRD1.out W G h j)
        have HA2 := hid (fun W G h => HRD2.out W G h j)
        generalize (S1.read j).1 = l at *
        generalize (S1.read j).2 = z at *
        go_wp2_with (first
          | (go_at_call 33; refine (HA1.out _ _ HZ.out).mono ?_; rintro e w5 ⟨rfl, hx5, ek5⟩)
          | (go_at_call 34; refine (HA2.out _ _ hx5).mono ?_; rintro e w6 ⟨rfl, h6⟩; obtain rfl := h6.symm))
        exact ⟨⟨j + 1, by omega, by go_num, hx5⟩, by simp [intOf]; omega⟩
      · obtain rfl : j = 5 := by omega
        go_wp2_with fail
        exact ⟨⟨k + 1, S1, by go_num, by omega, by omega, HNEX, HZ.out⟩, by simp [intOf]; omega⟩
end Go.Proofs.Ytogchfpecbmocaa
