/-
  The walk of LedgerBack.
-/
import Derived.Test.YtbofabmgfkploaaUnpk
import Derived.Test.YtbofabmgfkploaaAgain
namespace Go.Proofs.Ytbofabmgfkploaa
open Go.RowKit
set_option maxRecDepth 10000

theorem doo_len (S : Lg) (op : Int) (s : List UInt8) : (S.doo op s).2.length ≤ 200 := by
  have key : ∀ {α : Type} (f : Lg → α → Lg × List UInt8) (r : List α × Bool), (∀ S x, (f S x).2.length ≤ 33) → r.1.length ≤ 4 → (eachL f S r).2.length ≤ 200 := by
    intro α f r hf hr
    unfold eachL
    split
    · have h1 := runL_len f 33 hf S r.1
      have h2 : r.1.length * 33 ≤ 4 * 33 := Nat.mul_le_mul_right _ hr
      omega
    · simp
  unfold Lg.doo
  split
  · exact key mka _ mka_len (takL_le _ _ _)
  split
  · exact key mkt _ mkt_len (takL_le _ _ _)
  split
  · exact key tela _ tela_len (takL_le _ _ _)
  split
  · exact key telt _ telt_len (takL_le _ _ _)
  · simp
set_option maxHeartbeats 4000000 in
theorem back_walk (A : Option Addr) (n c : Nat) (A1 : Option Addr) (XS : List Ab) (n1 c1 : Nat) (S : Lg) (w : World) (hwf : S.WF)
    (HPL : Hid (∀ W : World, Below w.heap.size w W → Calls Try.prog 20 #[.slice A n c] W (NG 63 W S (fun p => .pointer (some ⟨p, 0, none⟩)))))
    (hr : Rd w w.heap.size A1 (rows Ab.cells XS)) (hn : n1 = XS.length) (hbig : n1 ≤ 9223372036854775807) :
    Calls Try.prog 6 #[.slice A n c, .slice A1 n1 c1] w fun e w' => e = .returned (.bool true) ∧ Below w.heap.size w w' := by
  have HAW := hid awake_any
  obtain ⟨hu1, hu2⟩ := unpack_pack S hwf
  have hpl : S.pack.length ≤ 1000 := by have := pack_len S hwf; have := hwf.la; have := hwf.lt; omega
  have HU := hid (fun W => unpack_yes ⟨S.pack.toArray⟩ W (by rw [← sb_len, sb_mk]; omega) (by rw [sb_mk]; exact hu1))
  rw [sb_mk, hu2] at HU
  have HR := hid hr
  have HN := hid hn
  clear hu1 hu2 hpl hr hn hwf
  go_enter Try.func6, Try.ntmps6
  have HP1 : Hid True := hid trivial
  go_wp2_with (first
    | (go_at_call 10; refine (HAW.out _).mono ?_; rintro e w1 ⟨rfl, hx⟩; have HBB := hid hx; clear hx)
    | (go_at_call 20; refine (HPL.out _ HBB.out).mono ?_; rintro e w2 ⟨p, fp, rfl, hk, hf, hx⟩; have HSK := hid (Sk.mk' HBB.out hk hf hx); clear hx hk hf HBB HPL)
    | (go_at_call 18; refine (Sk.pack HSK.out).mono ?_; rintro e w3 ⟨rfl, hx⟩; replace HSK := hid (HSK.out.below hx); clear hx)
    | (go_at_call 23; refine (HU.out _).mono ?_; rintro e w4 ⟨q, fq, rfl, hk, hf, hx⟩; have HTK := hid (HSK.out.two hx hk hf); clear hx hk hf HSK HU)
    | (go_at_call 18; have tok := HP1.out; refine (Sk.pack HTK.out.snd).mono ?_; rintro e w5 ⟨rfl, hx⟩; replace HTK := hid (HTK.out.below hx); clear hx HP1 tok)
    | (go_at_call 18; refine (Sk.pack HTK.out.fst).mono ?_; rintro e w6 ⟨rfl, hx⟩; replace HTK := hid (HTK.out.below hx); clear hx))
  clear HAW
  go_loopw [8] (fun i wr => ∃ (k : Nat) (T : Lg), k ≤ n1 ∧ k ≤ 60 ∧ i = .int .i64 (k : Int) ∧ Tk w 63 p T 63 q T wr) (fun i _ => n1 - (intOf i).toNat)
  case atStart => exact ⟨0, S, by omega, by omega, rfl, HTK.out⟩
  case round =>
    obtain ⟨k, T, hk, hk60, rfl, htk⟩ := hrel
    have HT := hid htk
    have HP2 : Hid True := hid trivial
    by_cases hlt : k < n1
    · by_cases hlt60 : k < 60
      · have hkl : k < XS.length := by rw [← HN.out]; exact hlt
        obtain ⟨ga, o, rfl⟩ := shape_of HR.out Ab.len (by decide) (by omega)
        have HRG := hid (fun W (hW : Below w.heap.size w W) => range_of (HR.out.below hW (Nat.le_refl _)) Ab.len hkl)
        generalize (XS[k]'hkl) = X at *
        obtain ⟨op, body⟩ := X
        have HC0' : Hid (∀ W : World, Below w.heap.size w W → W.cell? ⟨ga, o + k * 2, none⟩ = some (.int .i64 op)) := hid fun W hW => HRG.out W hW 0 _ rfl
        have HC1' : Hid (∀ W : World, Below w.heap.size w W → W.cell? ⟨ga, o + k * 2 + 1, none⟩ = some (.string body)) := hid fun W hW => HRG.out W hW 1 _ rfl
        have hi0 : (0 : Int) ≤ (k : Int) := by omega
        have hi1 : (k : Int) < (n1 : Int) := by omega
        have hi2 : (k : Int) < 60 := by omega
        have HBE := hid htk.frame
        clear htk HRG hkl HTK
        by_cases hsz : body.size ≤ 400
        · have HD := hid (fun p fq W (hg : Gk 63 p T fq W) => do_any p fq T body W (by omega) hg op)
          obtain ⟨r, hr⟩ : ∃ r, T.doo op (sb body) = r := ⟨_, rfl⟩
          rw [hr] at HD
          obtain ⟨T', bs⟩ := r
          have HD2 : Hid (∀ p fq W, Gk 63 p T fq W → Calls Try.prog 12 #[.pointer (some ⟨p, 0, none⟩), .int .i64 op, .string body] W fun e w' => e = .returned (.string ⟨bs.toArray⟩) ∧ Gw 63 p W fq T' w') := hid HD.out
          have hszi : (body.size : Int) ≤ 400 := by omega
          have HSZ : Hid (decide ((body.size : Int) ≤ 400) = true) := hid (decide_eq_true hszi)
          clear HD hr hsz
          go_wp2_with fail
          refine wp_region_held_drew (S := fun w' => Below w.heap.size w w') (by kernel_rfl) HBE.out.drew (fun hH => ?_)
          refine wpAnyH_take (i := 0) (v := .slice (some ⟨ga, o, none⟩) n1 c1) rfl (by kernel_rfl) (by kernel_rfl) (by kernel_rfl) (fun _ _ _ h => h) (Or.inl ⟨by kernel_rfl, fun w' hw' => by clear hw' ; go_simp⟩) hH ?_
          simp only [Act.put]
          refine wpAnyH_take (i := 1) (v := .int .i64 (k : Int)) rfl (by kernel_rfl) (by kernel_rfl) (by kernel_rfl) (fun _ _ _ h => h) (Or.inl ⟨by kernel_rfl, fun w' hw' => by clear hw' ; go_simp⟩) hH ?_
          simp only [Act.put]
          refine wpAnyH_take (i := 2) (v := .pointer (some ⟨ga, o + k * 2, none⟩)) rfl (by kernel_rfl) (by kernel_rfl) (by kernel_rfl) (fun _ _ _ h => h) (Or.inl ⟨by kernel_rfl, fun w' hw' => by clear hw' ; go_simp⟩) hH ?_
          simp only [Act.put]
          refine wpAnyH_take (i := 3) (v := .pointer (some ⟨ga, o + k * 2 + 1, none⟩)) rfl (by kernel_rfl) (by kernel_rfl) (by kernel_rfl) (fun _ _ _ h => h) (Or.inl ⟨by kernel_rfl, fun w' hw' => by clear hw' ; go_simp⟩) hH ?_
          simp only [Act.put]
          refine wpAnyH_take (i := 4) (v := .string body) rfl (by kernel_rfl) (by kernel_rfl) (by kernel_rfl) (fun _ _ _ h => h) (Or.inl ⟨by kernel_rfl, fun w' hw' => by have h := HC1'.out w' hw'; go_simp⟩) hH ?_
          simp only [Act.put]
          refine wpAnyH_take (i := 5) (v := .int .i64 (body.size : Int)) rfl (by kernel_rfl) (by kernel_rfl) (by kernel_rfl) (fun _ _ _ h => h) (Or.inl ⟨by kernel_rfl, fun w' hw' => by clear hw' ; go_simp⟩) hH ?_
          simp only [Act.put]
          refine wpAnyH_take (i := 6) (v := .bool true) rfl (by kernel_rfl) (by kernel_rfl) (by kernel_rfl) (fun _ _ _ h => h) (Or.inl ⟨by kernel_rfl, fun w' hw' => by have h := HSZ.out; go_simp⟩) hH ?_
          simp only [Act.put]
          refine wpAnyH_take (i := 7) (v := .bool true) rfl (by kernel_rfl) (by kernel_rfl) (by kernel_rfl) (fun _ _ _ h => h) (Or.inl ⟨by kernel_rfl, fun w' hw' => by clear hw' ; go_simp⟩) hH ?_
          simp only [Act.put]
          refine wpAnyH_take (i := 8) (v := .pointer (some ⟨p, 0, none⟩)) rfl (by kernel_rfl) (by kernel_rfl) (by kernel_rfl) (fun _ _ _ h => h) (Or.inl ⟨by kernel_rfl, fun w' hw' => by clear hw' ; go_simp⟩) hH ?_
          simp only [Act.put]
          refine wpAnyH_take (i := 9) (v := .slice (some ⟨ga, o, none⟩) n1 c1) rfl (by kernel_rfl) (by kernel_rfl) (by kernel_rfl) (fun _ _ _ h => h) (Or.inl ⟨by kernel_rfl, fun w' hw' => by clear hw' ; go_simp⟩) hH ?_
          simp only [Act.put]
          refine wpAnyH_take (i := 10) (v := .int .i64 (k : Int)) rfl (by kernel_rfl) (by kernel_rfl) (by kernel_rfl) (fun _ _ _ h => h) (Or.inl ⟨by kernel_rfl, fun w' hw' => by clear hw' ; go_simp⟩) hH ?_
          simp only [Act.put]
          refine wpAnyH_take (i := 11) (v := .pointer (some ⟨ga, o + k * 2, none⟩)) rfl (by kernel_rfl) (by kernel_rfl) (by kernel_rfl) (fun _ _ _ h => h) (Or.inl ⟨by kernel_rfl, fun w' hw' => by clear hw' ; go_simp⟩) hH ?_
          simp only [Act.put]
          refine wpAnyH_take (i := 12) (v := .pointer (some ⟨ga, o + k * 2, none⟩)) rfl (by kernel_rfl) (by kernel_rfl) (by kernel_rfl) (fun _ _ _ h => h) (Or.inl ⟨by kernel_rfl, fun w' hw' => by clear hw' ; go_simp⟩) hH ?_
          simp only [Act.put]
          refine wpAnyH_take (i := 13) (v := .int .i64 op) rfl (by kernel_rfl) (by kernel_rfl) (by kernel_rfl) (fun _ _ _ h => h) (Or.inl ⟨by kernel_rfl, fun w' hw' => by have h := HC0'.out w' hw'; go_simp⟩) hH ?_
          simp only [Act.put]
          refine wpAnyH_take (i := 14) (v := .slice (some ⟨ga, o, none⟩) n1 c1) rfl (by kernel_rfl) (by kernel_rfl) (by kernel_rfl) (fun _ _ _ h => h) (Or.inl ⟨by kernel_rfl, fun w' hw' => by clear hw' ; go_simp⟩) hH ?_
          simp only [Act.put]
          refine wpAnyH_take (i := 15) (v := .int .i64 (k : Int)) rfl (by kernel_rfl) (by kernel_rfl) (by kernel_rfl) (fun _ _ _ h => h) (Or.inl ⟨by kernel_rfl, fun w' hw' => by clear hw' ; go_simp⟩) hH ?_
          simp only [Act.put]
          refine wpAnyH_take (i := 16) (v := .pointer (some ⟨ga, o + k * 2, none⟩)) rfl (by kernel_rfl) (by kernel_rfl) (by kernel_rfl) (fun _ _ _ h => h) (Or.inl ⟨by kernel_rfl, fun w' hw' => by clear hw' ; go_simp⟩) hH ?_
          simp only [Act.put]
          refine wpAnyH_take (i := 17) (v := .pointer (some ⟨ga, o + k * 2 + 1, none⟩)) rfl (by kernel_rfl) (by kernel_rfl) (by kernel_rfl) (fun _ _ _ h => h) (Or.inl ⟨by kernel_rfl, fun w' hw' => by clear hw' ; go_simp⟩) hH ?_
          simp only [Act.put]
          refine wpAnyH_take (i := 18) (v := .string body) rfl (by kernel_rfl) (by kernel_rfl) (by kernel_rfl) (fun _ _ _ h => h) (Or.inl ⟨by kernel_rfl, fun w' hw' => by have h := HC1'.out w' hw'; go_simp⟩) hH ?_
          simp only [Act.put]
          refine wpAnyH_take (i := 20) (v := .pointer (some ⟨q, 0, none⟩)) rfl (by kernel_rfl) (by kernel_rfl) (by kernel_rfl) (fun _ _ _ h => h) (Or.inl ⟨by kernel_rfl, fun w' hw' => by clear hw' ; go_simp⟩) hH ?_
          simp only [Act.put]
          refine wpAnyH_take (i := 21) (v := .slice (some ⟨ga, o, none⟩) n1 c1) rfl (by kernel_rfl) (by kernel_rfl) (by kernel_rfl) (fun _ _ _ h => h) (Or.inl ⟨by kernel_rfl, fun w' hw' => by clear hw' ; go_simp⟩) hH ?_
          simp only [Act.put]
          refine wpAnyH_take (i := 22) (v := .int .i64 (k : Int)) rfl (by kernel_rfl) (by kernel_rfl) (by kernel_rfl) (fun _ _ _ h => h) (Or.inl ⟨by kernel_rfl, fun w' hw' => by clear hw' ; go_simp⟩) hH ?_
          simp only [Act.put]
          refine wpAnyH_take (i := 23) (v := .pointer (some ⟨ga, o + k * 2, none⟩)) rfl (by kernel_rfl) (by kernel_rfl) (by kernel_rfl) (fun _ _ _ h => h) (Or.inl ⟨by kernel_rfl, fun w' hw' => by clear hw' ; go_simp⟩) hH ?_
          simp only [Act.put]
          refine wpAnyH_take (i := 24) (v := .pointer (some ⟨ga, o + k * 2, none⟩)) rfl (by kernel_rfl) (by kernel_rfl) (by kernel_rfl) (fun _ _ _ h => h) (Or.inl ⟨by kernel_rfl, fun w' hw' => by clear hw' ; go_simp⟩) hH ?_
          simp only [Act.put]
          refine wpAnyH_take (i := 25) (v := .int .i64 op) rfl (by kernel_rfl) (by kernel_rfl) (by kernel_rfl) (fun _ _ _ h => h) (Or.inl ⟨by kernel_rfl, fun w' hw' => by have h := HC0'.out w' hw'; go_simp⟩) hH ?_
          simp only [Act.put]
          refine wpAnyH_take (i := 26) (v := .slice (some ⟨ga, o, none⟩) n1 c1) rfl (by kernel_rfl) (by kernel_rfl) (by kernel_rfl) (fun _ _ _ h => h) (Or.inl ⟨by kernel_rfl, fun w' hw' => by clear hw' ; go_simp⟩) hH ?_
          simp only [Act.put]
          refine wpAnyH_take (i := 27) (v := .int .i64 (k : Int)) rfl (by kernel_rfl) (by kernel_rfl) (by kernel_rfl) (fun _ _ _ h => h) (Or.inl ⟨by kernel_rfl, fun w' hw' => by clear hw' ; go_simp⟩) hH ?_
          simp only [Act.put]
          refine wpAnyH_take (i := 28) (v := .pointer (some ⟨ga, o + k * 2, none⟩)) rfl (by kernel_rfl) (by kernel_rfl) (by kernel_rfl) (fun _ _ _ h => h) (Or.inl ⟨by kernel_rfl, fun w' hw' => by clear hw' ; go_simp⟩) hH ?_
          simp only [Act.put]
          refine wpAnyH_take (i := 29) (v := .pointer (some ⟨ga, o + k * 2 + 1, none⟩)) rfl (by kernel_rfl) (by kernel_rfl) (by kernel_rfl) (fun _ _ _ h => h) (Or.inl ⟨by kernel_rfl, fun w' hw' => by clear hw' ; go_simp⟩) hH ?_
          simp only [Act.put]
          refine wpAnyH_take (i := 30) (v := .string body) rfl (by kernel_rfl) (by kernel_rfl) (by kernel_rfl) (fun _ _ _ h => h) (Or.inl ⟨by kernel_rfl, fun w' hw' => by have h := HC1'.out w' hw'; go_simp⟩) hH ?_
          simp only [Act.put]
          replace HT := hid (HT.out.drewN 1)
          refine wpAnyH_ready (rs := [19]) (by kernel_rfl) (by simp) ?_
          refine AllReadyH.cons rfl (fun K hK => ?_) AllReadyH.nil
          rw [if_pos (by kernel_rfl)]
          go_simp
          go_at_call 12
          refine (HT.out.call1 (fun fp hk => HD2.out p fp _ hk)).mono ?_
          rintro e w7 ⟨rfl, htk⟩
          replace HT := hid htk
          clear htk
          go_wp2_with fail
          refine hK.out _ _ HT.out.frame (fun hH => ?_)
          clear hK K
          try simp only [Act.put]
          refine wpAnyH_ready (rs := [31]) (by kernel_rfl) (by simp) ?_
          refine AllReadyH.cons rfl (fun K hK => ?_) AllReadyH.nil
          rw [if_pos (by kernel_rfl)]
          go_simp
          go_at_call 12
          refine (HT.out.call2 (fun fp hk => HD2.out q fp _ hk)).mono ?_
          rintro e w8 ⟨rfl, htk⟩
          replace HT := hid htk
          clear htk
          go_wp2_with fail
          refine hK.out _ _ HT.out.frame (fun hH => ?_)
          clear hK K
          try simp only [Act.put]
          refine wpAnyH_take (i := 32) (v := .bool false) rfl (by kernel_rfl) (by kernel_rfl) (by kernel_rfl) (fun _ _ _ h => h) (Or.inl ⟨by kernel_rfl, fun w' hw' => by clear hw' ; go_simp⟩) hH ?_
          simp only [Act.put]
          refine wpAnyH_take (i := 33) (v := .bool false) rfl (by kernel_rfl) (by kernel_rfl) (by kernel_rfl) (fun _ _ _ h => h) (Or.inl ⟨by kernel_rfl, fun w' hw' => by clear hw' ; go_simp⟩) hH ?_
          simp only [Act.put]
          refine wpAnyH_done (by kernel_rfl) ?_ _
          try simp only [Act.put]
          clear hH
          go_wp2_with fail
          go_roundw
          case rel => exact ⟨k + 1, T', by omega, by omega, by go_num, HT.out⟩
          case measure => simp [intOf]; omega
        · have hszi : ¬ (body.size : Int) ≤ 400 := by omega
          have hsd : decide ((body.size : Int) ≤ 400) = false := decide_eq_false hszi
          have hc1 := HC1'.out wr HBE.out
          clear hsz
          go_wp2_with fail
          go_quiet (fail)
          go_wp2_with fail
          go_roundw
          case rel => exact ⟨k + 1, T, by omega, by omega, by go_num, HT.out.drewN _⟩
          case measure => simp [intOf]; omega
      · obtain rfl : k = 60 := by omega
        have hi1 : (60 : Int) < (n1 : Int) := by omega
        clear htk HTK
        go_wp2_with (first
          | (go_at_call 18; have tok := HP2.out; refine (Sk.pack HT.out.fst).mono ?_; rintro e w9 ⟨rfl, hx⟩; replace HT := hid (HT.out.below hx); clear hx HP2 tok)
          | (go_at_call 18; refine (Sk.pack HT.out.snd).mono ?_; rintro e w10 ⟨rfl, hx⟩; replace HT := hid (HT.out.below hx); clear hx))
        go_ret
        exact ⟨rfl, HT.out.frame⟩
    · have hi1 : ¬ (k : Int) < (n1 : Int) := by omega
      clear htk HTK
      go_wp2_with (first
        | (go_at_call 18; have tok := HP2.out; refine (Sk.pack HT.out.fst).mono ?_; rintro e w9 ⟨rfl, hx⟩; replace HT := hid (HT.out.below hx); clear hx HP2 tok)
        | (go_at_call 18; refine (Sk.pack HT.out.snd).mono ?_; rintro e w10 ⟨rfl, hx⟩; replace HT := hid (HT.out.below hx); clear hx))
      go_ret
      exact ⟨rfl, HT.out.frame⟩
theorem back_any (A : Option Addr) (XS : List Ab) (n c : Nat) (A1 : Option Addr) (XS1 : List Ab) (n1 c1 : Nat) (w : World) (hr : Rd w w.heap.size A (rows Ab.cells XS)) (hn : n = XS.length) (hbig : n ≤ 9223372036854775807) (hr1 : Rd w w.heap.size A1 (rows Ab.cells XS1)) (hn1 : n1 = XS1.length) (hbig1 : n1 ≤ 9223372036854775807) :
    Calls Try.prog 6 #[.slice A n c, .slice A1 n1 c1] w fun e w' => e = .returned (.bool true) ∧ Below w.heap.size w w' :=
  back_walk A n c A1 XS1 n1 c1 (playN XS) w (playN_wf XS) (hid (fun W (hW : Below w.heap.size w W) => played_any A XS n c W ((hr.below hW (Nat.le_refl _)).more hW.size) hn hbig)) hr1 hn1 hbig1
end Go.Proofs.Ytbofabmgfkploaa
