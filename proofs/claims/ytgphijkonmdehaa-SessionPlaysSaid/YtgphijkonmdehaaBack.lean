/-
  The walk of SessionBack.
-/
import Derived.Test.YtgphijkonmdehaaDoes
import Derived.Test.YtgphijkonmdehaaUnp
import Derived.Test.YtgphijkonmdehaaAct
namespace Go.Proofs.Ytgphijkonmdehaa
open Go.RowKit
set_option maxRecDepth 10000

theorem Sk.packed {w0 w : World} {p : Nat} {T : List Ss} (h : Sk w0 54 p T w) : Calls Try.prog 16 #[.pointer (some ⟨p, 0, none⟩)] w (SE w (pack T)) := by
  obtain ⟨fp, h1, _⟩ := h
  exact pack_any p fp T w h1
theorem playN_wf (XS : List Ab) : WF (playN XS) := playS_wf _
theorem playN_one (XS : List Ab) : One (playN XS) := playS_one _
set_option maxHeartbeats 4000000 in
theorem back_any (A : Option Addr) (XS : List Ab) (n c : Nat) (w : World) (hr : Rd w w.heap.size A (rows Ab.cells XS)) (hn : n = XS.length) (hbig : n ≤ 9223372036854775807) : Calls Try.prog 5 #[.slice A n c] w (VE w (.bool true)) := by
  have HU : Hid (∀ W, Calls Try.prog 19 #[.string ⟨(pack (playN XS)).toArray⟩] W (NG 54 W (playN XS) (fun p => .tuple #[.pointer (some ⟨p, 0, none⟩), .int .i64 0]))) := hid fun W => unpack_yes (playN XS) (playN_wf XS) _ (sb_mk _) W
  have HLEN : Hid ((playN XS).length ≤ 3) := hid (playN_wf XS).le
  have HR := hid hr
  have HN := hid hn
  have HST := hid (fun k (hk : k < XS.length) => playS_take XS k hk)
  have HEND : Hid (∀ k, k = 60 → playS (XS.take k) = playN XS) := hid fun k he => by
    unfold playN
    congr 1
    rw [List.take_eq_take_iff]
    omega
  have HEND2 : Hid (∀ k, k = n → k ≤ 60 → playS (XS.take k) = playN XS) := hid fun k hk he => by
    unfold playN
    congr 1
    rw [List.take_eq_take_iff]
    omega
  have HD := hid (fun p (T : List Ss) (x : Ab) fp W (hk : Gk 54 p T fp W) => does_any p fp T x W hk)
  have HX6 := hid (show (Try.prog.info? 34).map (·.size) = some 6 from by kernel_rfl)
  have HAW := hid awake_any
  clear hr hn
  go_enter Try.func5, Try.ntmps5
  go_wp2_with (first
    | (go_at_call 8; refine (HAW.out _).mono ?_; rintro e w1 ⟨rfl, hx⟩; have HBB := hid hx; clear hx)
    | (go_at_call 9; refine (new_any _).mono ?_; rintro e w1 ⟨p, fp, rfl, hk, hf, hx⟩; have HSK := hid (Sk.mk' HBB.out hk hf hx); clear hk hf hx))
  go_loopw [4] (fun iv wr => ∃ k : Nat, k ≤ n ∧ k ≤ 60 ∧ iv = .int .i64 (k : Int) ∧ Sk w 54 p (playS (XS.take k)) wr) (fun iv _ => n - (intOf iv).toNat)
  case atStart => exact ⟨0, by omega, by omega, rfl, HSK.out⟩
  case round =>
    obtain ⟨k, hk, hk60, rfl, hsk⟩ := hrel
    have HSR := hid hsk
    clear hsk
    by_cases hlt : k < n
    · by_cases hlt60 : k < 60
      · have hkl : k < XS.length := by rw [← HN.out]; exact hlt
        have hrd := HR.out.below HSR.out.frame (Nat.le_refl _)
        obtain ⟨ga, o, rfl⟩ := shape_of hrd Ab.len (by decide) (by omega)
        have hrg := hrd.range Ab.len k hkl
        have HDK := hid (fun fp W hk => HD.out p (playS (XS.take k)) XS[k] fp W hk)
        rw [← HST.out k hkl] at HDK
        have HC6 : Hid ((Ab.cells XS[k]).length = 6) := hid (Ab.len _)
        generalize doV (playS (XS.take k)) XS[k] = dv at *
        generalize doE (playS (XS.take k)) XS[k] = de at *
        generalize Ab.cells XS[k] = X at *
        obtain ⟨U, hU⟩ : ∃ U, playS (XS.take (k + 1)) = U := ⟨_, rfl⟩
        rw [hU] at HDK
        have HUU := hid hU
        clear hU
        have HRG := hid hrg
        have hi0 : (0 : Int) ≤ (k : Int) := by omega
        have hi1 : (k : Int) < (n : Int) := by omega
        have hi2 : (k : Int) < 60 := by omega
        clear hrd hrg
        go_wp2_with (first
          | (refine wpList_load_mid rfl 34 (.tmp 23) rfl ga (o + k * 6) rfl X _ HRG.out Try.underlying34 rfl (by rw [HC6.out]; exact HX6.out) ?_)
          | (go_at_call 10; refine (HSR.out.call (fun fp hk => HDK.out fp _ hk)).mono ?_; rintro e w2 ⟨rfl, hs2⟩))
        exact ⟨⟨k + 1, by omega, by omega, by go_num, by rw [HUU.out]; exact hs2⟩, by simp [intOf]; omega⟩
      · have HT : Hid (Sk w 54 p (playN XS) wr) := hid (by rw [← HEND.out k (by omega)]; exact HSR.out)
        have hi1 : (k : Int) < (n : Int) := by omega
        have hi2 : ¬ (k : Int) < 60 := by omega
        clear HSR HST HEND HEND2
        generalize playN XS = T at *
        have HTOK : Hid True := hid trivial
        go_wp2_with (first
          | (go_at_call 16; refine (Sk.packed HT.out).mono ?_; rintro e w3 ⟨rfl, hx⟩; replace HT := hid (HT.out.below hx); clear hx)
          | (go_at_call 19; refine (HU.out _).mono ?_; rintro e w4 ⟨q, fq, rfl, hk4, hf4, hx⟩; have HTT := hid (HT.out.two hx hk4 hf4); clear hx hk4 hf4 HT)
          | (go_at_call 15; have tok := HTOK.out; refine (HTT.out.fst.listed).mono ?_; intro e w5 hh; obtain ⟨A5, c5, rfl, hc5, hr5, hx, -⟩ := hh; replace HTT := hid (HTT.out.below hx); have HR5 := hid hr5; have HC5 := hid hc5; clear hx hr5 hc5 tok HTOK)
          | (go_at_call 15; refine (HTT.out.snd.listed).mono ?_; intro e w6 hh; obtain ⟨A6, c6, rfl, hc6, hr6, hx, -⟩ := hh; have HS := hid hc6; have HR6 := hid hr6; have HR5' := hid (HR5.out.below hx (Nat.le_refl _)); have HX := hid hx; clear hr6 hc6 hx)
          | (go_at_call 14; refine (same_any A5 A6 T _ c5 c6 w6.heap.size w6 (HR5'.out.more HX.out.size) HR6.out rfl HC5.out HS.out (Nat.le_refl _) (by have := HLEN.out; omega)).mono ?_; rintro e w7 ⟨rfl, hx⟩; have HX7 := hid hx; clear hx))
        go_ret
        exact ⟨rfl, (HTT.out.below HX.out).frame.trans (HX7.out.mono (HTT.out.below HX.out).frame.size)⟩
    · have HT : Hid (Sk w 54 p (playN XS) wr) := hid (by rw [← HEND2.out k (by omega) hk60]; exact HSR.out)
      have hi1 : ¬ (k : Int) < (n : Int) := by omega
      clear HSR HST HEND HEND2
      generalize playN XS = T at *
      have HTOK : Hid True := hid trivial
      go_wp2_with (first
        | (go_at_call 16; refine (Sk.packed HT.out).mono ?_; rintro e w3 ⟨rfl, hx⟩; replace HT := hid (HT.out.below hx); clear hx)
        | (go_at_call 19; refine (HU.out _).mono ?_; rintro e w4 ⟨q, fq, rfl, hk4, hf4, hx⟩; have HTT := hid (HT.out.two hx hk4 hf4); clear hx hk4 hf4 HT)
        | (go_at_call 15; have tok := HTOK.out; refine (HTT.out.fst.listed).mono ?_; intro e w5 hh; obtain ⟨A5, c5, rfl, hc5, hr5, hx, -⟩ := hh; replace HTT := hid (HTT.out.below hx); have HR5 := hid hr5; have HC5 := hid hc5; clear hx hr5 hc5 tok HTOK)
        | (go_at_call 15; refine (HTT.out.snd.listed).mono ?_; intro e w6 hh; obtain ⟨A6, c6, rfl, hc6, hr6, hx, -⟩ := hh; have HS := hid hc6; have HR6 := hid hr6; have HR5' := hid (HR5.out.below hx (Nat.le_refl _)); have HX := hid hx; clear hr6 hc6 hx)
        | (go_at_call 14; refine (same_any A5 A6 T _ c5 c6 w6.heap.size w6 (HR5'.out.more HX.out.size) HR6.out rfl HC5.out HS.out (Nat.le_refl _) (by have := HLEN.out; omega)).mono ?_; rintro e w7 ⟨rfl, hx⟩; have HX7 := hid hx; clear hx))
      go_ret
      exact ⟨rfl, (HTT.out.below HX.out).frame.trans (HX7.out.mono (HTT.out.below HX.out).frame.size)⟩
end Go.Proofs.Ytgphijkonmdehaa
