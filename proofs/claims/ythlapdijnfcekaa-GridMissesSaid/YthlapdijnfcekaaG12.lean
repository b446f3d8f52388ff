/-
  The walk of GridMisses.
-/
import Derived.Test.YthlapdijnfcekaaG11
import Derived.Deep.CutRange
import Derived.Deep.DeepCutAuto
import Derived.Deep.CutBlock
namespace Go.Proofs.Ythlapdijnfcekaa
open Go.RowKit
set_option maxRecDepth 10000

theorem Dd.drew {w0 w : World} {p gs : Nat} {S : Sp} {G : List Nat} (h : Dd w0 w p gs S G) : Dd w0 w.drew p gs S G := (h.new (w' := w.drew) ⟨rfl, rfl, rfl, Nat.le_refl _, fun _ _ => rfl⟩).1
theorem own_form {w : World} {B : Nat} {e : TypeId} {v : Value} {n : Nat} {xs : List Value} (h : w.ownsRow B e 1 v n xs) : ∃ A c, v = .slice A n c ∧ n ≤ c ∧ Rd w w.heap.size A xs := by
  have hx := h.1
  rcases h.2 with ⟨e0, e1⟩ | ⟨g, cap, cur, e0, _, _, h1, _⟩
  · subst e0
    subst e1
    refine ⟨none, 0, rfl, Nat.le_refl _, fun q => absurd (List.length_eq_zero_iff.1 (by omega)) q⟩
  · subst e0
    refine ⟨_, cap, rfl, h1, ?_⟩
    have hn : n = xs.length := by omega
    subst hn
    exact Rd.of_own h
theorem infoBool : (Try.prog.info? 4).map (fun i => (i.zero, i.size, i.bytes)) = some (some (.bool false), 1, 1) := by kernel_rfl
theorem sizeBool : (Try.prog.info? 4).map (·.size) = some 1 := by kernel_rfl
set_option maxHeartbeats 8000000 in
theorem misses_lawG (s : ByteArray) (ar : Int) (A : Option Addr) (l cap : Nat) (picks : List Int) (w : World) (hl : l = picks.length) (hr : Rd w w.heap.size A (ints picks)) :
    Calls Try.prog 4 #[.string s, .int .i64 ar, .slice A l cap] w (VE w (.bool true)) := by
  have HZ6 := hid size6
  obtain ⟨iB, hiB, hB0, hB1, hB2⟩ := info_parts infoBool
  obtain ⟨iI, hiI, hz0, hz1, hz2⟩ := info_parts infoI
  have b1 : Hid ((6 : Int) = ((6 : Nat) : Int)) := hid rfl
  have b2 : Hid (iB.bytes * 6 ≤ 281474976710656) := hid (by rw [hB2]; decide)
  have b3 : Hid (6 ≤ maxLen) := hid (le_maxLen (by decide))
  have HN := hid (fun W => gnew_any W)
  have HAW := hid (fun W => awakeG_any W)
  obtain ⟨a, ha, ha1⟩ := and_leG ar 1 1 (by decide) (by decide)
  by_cases hs9 : 1920 < s.size
  · have hs9i : (1920 : Int) < (s.size : Int) := by omega
    have HS := hid (fun W => gsums_long s hs9 W)
    clear hr
    go_enter Try.func4, Try.ntmps4
    go_wp2_with (first
      | (go_at_call 6; refine (HAW.out _).mono ?_; rintro e wa ⟨rfl, hba⟩; have BA := hid hba; clear hba)
      | (go_at_call 7; refine (HN.out _).mono ?_; rintro e w1 ⟨p, gs, rfl, hd⟩; have H1 := hid hd; clear hd)
      | (go_at_call 8; refine (HS.out _).mono ?_; rintro e w2 ⟨rfl, hb2⟩; have H2 := hid (H1.out.new hb2).1; clear hb2)
      | (refine wpl_store_st rfl (.tmp 9) (.tmp 37) rfl (n := 6) HZ6.out w2.heap.size (sixL (fun _ => 0)).toArray (sixL (fun _ => 0)).toArray rfl rfl (Row.new _ _ _) ?_ (hid rfl) (hid rfl) (six_one _); intro w5 HR5 HB5; have R5 := hid HR5; have hb5 := ((Below.refl w2.heap.size w2).alloc (Nat.le_refl _) (.cells (sixL (fun _ => 0)).toArray 29)).trans (below_grown HB5 (Nat.le_refl _) (by simp)); have H5 := hid (H2.out.add hb5 (Nat.le_refl _) HR5.lt); clear HR5 HB5 hb5))
    go_ret
    exact ⟨rfl, BA.out.trans (H5.out.below.mono BA.out.size)⟩
  have hs9i : ¬ (1920 : Int) < (s.size : Int) := by omega
  have HS := hid (fun W => gsums_any s (by omega) W)
  have hm6 := cnt_six (s := sb s) (by rw [sb_len]; omega)
  have hsl : (sb s).length = s.size := sb_len s
  have HCT := hid (fun W => rcount_any s.size (by omega) W)
  obtain ⟨S1, e1, h1, hn1, hc1, hz1', hrt⟩ := first_g (sb s) (by rw [sb_len]; omega) a ha1
  have HW : Hid (∀ (w0 W : World) (p gs : Nat) (G : List Nat), Dd w0 W p gs (Sp.mk0 32) G → Calls Try.prog 9 #[.pointer (some ⟨p, 0, none⟩), .int .i64 (a : Int), .string s] W (DC w0 W p gs S1 G (.int .i64 0))) := hid fun w0 W p gs G hW => by
    have h2 := gwrite_any hW (by simp [Sp.mk0]) a ha1 s (by omega)
    rw [← sb_len, e1] at h2
    exact h2
  have hmi : MiG (sb s) (20 + 6 * a) S1 (updG (fun _ => none) (pieceG (sb s)) (20 + 6 * a) (cntG (sb s).length)) := ⟨hrt, hn1, by omega, hz1', fun i hi => .inl (upd_in _ _ hi)⟩
  have hbf := bads_first (updG (fun _ => none) (pieceG (sb s)) (20 + 6 * a) (cntG (sb s).length)) (20 + 6 * a) (cntG (sb s).length) (fun i hi => by rw [upd_in _ _ hi]; simp)
  generalize updG (fun _ => none) (pieceG (sb s)) (20 + 6 * a) (cntG (sb s).length) = K1 at *
  have HMI := hid hmi
  have HBF := hid hbf
  obtain ⟨m, hm⟩ : ∃ m, cntG (sb s).length = m := ⟨_, rfl⟩
  rw [← hsl, hm] at HCT
  rw [hm] at HBF hm6
  have HMM := hid hm
  have hmc : m = 0 → s.size = 0 := fun q => by
    have : cntG (sb s).length = ((sb s).length + 319) / 320 := rfl
    omega
  have HMC := hid hmc
  obtain ⟨SM, hSM⟩ : ∃ SM, sumG chG (sb s) = SM := ⟨_, rfl⟩
  rw [hSM] at HS
  have HSM := hid hSM
  generalize Sp.mk0 32 = S0 at *
  have HRD := hid hr
  have HLL := hid hl
  clear e1 h1 hn1 hc1 hz1' hrt hmi hbf hm hmc hSM hr hl
  rw [hsl] at HCT
  go_enter Try.func4, Try.ntmps4
  go_upto_block 0 with (first
    | (go_at_call 6; refine (HAW.out _).mono ?_; rintro e wa ⟨rfl, hba⟩; have BA := hid hba; clear hba)
    | (go_at_call 7; refine (HN.out _).mono ?_; rintro e w1 ⟨p, gs, rfl, hd⟩; have H1 := hid hd; clear hd)
    | (go_at_call 8; refine (HS.out _).mono ?_; rintro e w2 ⟨rfl, hb2⟩; have H2 := hid (H1.out.new hb2).1; clear hb2)
    | (refine wpl_store_st rfl (.tmp 9) (.tmp 37) rfl (n := 6) HZ6.out w2.heap.size (sixL (fun _ => 0)).toArray (sixL SM).toArray rfl rfl (Row.new _ _ _) ?_ (hid rfl) (hid rfl) (six_one _); intro w5 HR5 HB5; have R5 := hid HR5; have hb5 := ((Below.refl w2.heap.size w2).alloc (Nat.le_refl _) (.cells (sixL (fun _ => 0)).toArray 29)).trans (below_grown HB5 (Nat.le_refl _) (by simp)); have H5 := hid (H2.out.add hb5 (Nat.le_refl _) HR5.lt); clear HR5 HB5 hb5)
    | (go_at_call 9; refine (HW.out _ _ _ _ _ H5.out).mono ?_; rintro e w6 ⟨rfl, h6, k6⟩; have H6 := hid h6; have R6 := hid (k6.row R5.out (by simp)); clear h6 k6)
    | (go_at_call 14; refine (HCT.out _).mono ?_; rintro e w11 ⟨rfl, rfl⟩)
    | (with_reducible refine wpl_make rfl (.const (.int .i64 6)) (.const (.int .i64 6)) 39 rfl 4 iB (.bool false) Try.underlying39 hiB hB0 hB1 rfl .i64 .i64 6 6 6 rfl rfl ?_ b1 b1 b2 b3; intro gb w7 hg hrb hbb; have HG := hg; clear hg; have RB := hid hrb; have hbq := R6.out.lt; have H7 := hid (H6.out.add (hbb.mono (by have := HG.out; omega)) (by have := HG.out; omega) hrb.lt); have R7 := hid (R6.out.below hbb (by have := HG.out; omega)); have HNE := hid (show w2.heap.size ≠ gb by have := HG.out; omega); clear hrb hbb))
  rw [← HBF.out] at RB
  have hq2 : w2.heap.size ∈ [gb, w2.heap.size] := by simp
  have hgb : wa.heap.size ≤ gb := by
    have h1 := H6.out.size
    have h2 := HG.out
    omega
  have HGB := hid hgb
  clear HG R6 H6 H5 R5 H2 H1 hbq hgb hq2 HBF HAW HN HW HS
  go_cut [13] (fun iv wx => ∃ S K, Hid (MiG (sb s) (20 + 6 * a) S K) ∧ Dd wa wx p gs S [gb, w2.heap.size] ∧ Row wx gb 4 (badsG K (20 + 6 * a) m) ∧ Row wx w2.heap.size 29 (sixL SM).toArray.toList ∧ iv = iv)
  case first =>
    go_wp2_with fail
    go_loopw [13] (fun iv wr => ∃ n : Nat, n ≤ 12 ∧ iv = .int .i64 (n : Int) ∧ ∃ S K, Hid (MiG (sb s) (20 + 6 * a) S K) ∧ Dd wa wr p gs S [gb, w2.heap.size] ∧ Row wr gb 4 (badsG K (20 + 6 * a) m) ∧ Row wr w2.heap.size 29 (sixL SM).toArray.toList) (fun iv _ => 12 - (intOf iv).toNat)
    case atStart => exact ⟨0, Nat.zero_le _, rfl, S1, K1, HMI, H7.out, RB.out, R7.out⟩
    case round =>
      obtain ⟨n, hn, rfl, S, K, hmi, hd, hrb, hrq⟩ := hrel
      have HD := hid hd
      have HRB := hid hrb
      have HRQ := hid hrq
      clear hd hrb hrq
      by_cases c1 : n < l
      case neg =>
        have c1i : ¬ (n : Int) < (l : Int) := by omega
        go_wp2_with fail
        go_meet
        case rel => exact ⟨S, K, hmi, HD.out, HRB.out, HRQ.out, trivial⟩
      case pos =>
      have c1i : (n : Int) < (l : Int) := by omega
      by_cases c2 : n < 12
      case neg =>
        have c2i : ¬ (n : Int) < 12 := by omega
        go_wp2_with fail
        go_meet
        case rel => exact ⟨S, K, hmi, HD.out, HRB.out, HRQ.out, trivial⟩
      case pos =>
      have c2i : (n : Int) < 12 := by omega
      by_cases c3 : 0 < m
      case neg =>
        have c3i : ¬ (0 : Int) < (m : Int) := by omega
        go_wp2_with fail
        go_meet
        case rel => exact ⟨S, K, hmi, HD.out, HRB.out, HRQ.out, trivial⟩
      case pos =>
      have c3i : (0 : Int) < (m : Int) := by omega
      have hm0 : ¬ (m : Int) = 0 := by omega
      have h0n : (0 : Int) ≤ (n : Int) := by omega
      have hbw := BA.out.trans (HD.out.below.mono BA.out.size)
      have HBW := hid hbw
      obtain ⟨y, hy⟩ : ∃ y, (ints picks)[n]'(by rw [ints_len, ← HLL.out]; exact c1) = .int .i64 y := ⟨picks[n]'(by rw [← HLL.out]; exact c1), by simp [ints]⟩
      obtain ⟨g, o, hA, -, -⟩ := HRD.out.at_ (j := n) (by rw [ints_len, ← HLL.out]; exact c1)
      have HC : Hid (∀ W, Below w.heap.size w W → W.cell? ⟨g, o + n, none⟩ = some (.int .i64 y)) := hid fun W hW => by
        obtain ⟨g', o', e, _, hc⟩ := (HRD.out.below hW (Nat.le_refl _)).at_ (j := n) (by rw [ints_len, ← HLL.out]; exact c1)
        rw [hA] at e
        cases e
        rw [hc, hy]
      clear hy hbw
      subst hA
      have hc0 := HC.out wr HBW.out
      obtain ⟨x7, hx7, hx7l⟩ := and_leG y 7 7 (by decide) (by decide)
      have hrem : ((x7 : Int)).tmod (m : Int) = ((x7 % m : Nat) : Int) := by rw [Int.tmod_eq_emod_of_nonneg (by omega)]; rfl
      have hkm : x7 % m < m := Nat.mod_lt _ c3
      have hrw : IntKind.i64.wrap ((x7 % m : Nat) : Int) = ((x7 % m : Nat) : Int) := w64 (by omega) (by omega)
      generalize x7 % m = k at *
      have e1 : IntKind.i64.wrap (6 * (a : Int)) = 6 * (a : Int) := w64 (by omega) (by omega)
      have e2 : IntKind.i64.wrap (20 + 6 * (a : Int)) = 20 + 6 * (a : Int) := w64 (by omega) (by omega)
      have e3 : IntKind.i64.wrap (20 + 6 * (a : Int) + (k : Int)) = 20 + 6 * (a : Int) + (k : Int) := w64 (by omega) (by omega)
      have hcast : ((20 + 6 * a + k : Nat) : Int) = 20 + 6 * (a : Int) + (k : Int) := by omega
      go_wp2_with fail
      obtain ⟨b, hb, -⟩ := and_leG (y / 8) 255 255 (by decide) (by decide)
      obtain ⟨c, hc, hcl⟩ := and_leG (y / 2048) 127 127 (by decide) (by decide)
      have hcw : IntKind.i64.wrap (1 + (c : Int)) = 1 + (c : Int) := w64 (by omega) (by omega)
      have hcn := hmi.out.cnt
      rcases mi_rot hmi.out (k := k) (by rw [HMM.out]; exact hkm) (b : Int) (1 + (c : Int)) with ⟨x, hrot, hx0⟩ | ⟨S', hrot, hm2⟩
      · have hx : (x == 0) = false := by simpa using hx0
        have HROT : Hid (∀ W, Dd wa W p gs S [gb, w2.heap.size] → Calls Try.prog 15 #[.pointer (some ⟨p, 0, none⟩), .int .i64 (20 + 6 * (a : Int) + (k : Int)), .int .i64 (b : Int), .int .i64 (1 + (c : Int))] W (DC wa W p gs S [gb, w2.heap.size] (.int .i64 x))) := hid fun W hW => by
          have h3 := dd_rot hW (by omega) _ _ _ hrot
          rw [hcast] at h3
          exact h3
        clear hrot hcn
        refine wp_region_held_drew (S := fun W => Below w.heap.size w W) (by kernel_rfl) (HBW.out.drew) (fun hH => ?_)
        refine wpAnyH_take (i := 0) (v := .pointer (some ⟨p, 0, none⟩)) rfl (by kernel_rfl) (by kernel_rfl) (by kernel_rfl) (fun _ _ _ h => h) (Or.inl ⟨by rfl, fun w' hw' => by clear hw'; go_simp⟩) hH ?_
        simp only [Act.put]
        refine wpAnyH_take (i := 1) (v := .int .i64 (a : Int)) rfl (by kernel_rfl) (by kernel_rfl) (by kernel_rfl) (fun _ _ _ h => h) (Or.inl ⟨by rfl, fun w' hw' => by clear hw'; go_simp⟩) hH ?_
        simp only [Act.put]
        refine wpAnyH_take (i := 2) (v := .int .i64 (6 * (a : Int))) rfl (by kernel_rfl) (by kernel_rfl) (by kernel_rfl) (fun _ _ _ h => h) (Or.inl ⟨by rfl, fun w' hw' => by have h := e1; go_simp⟩) hH ?_
        simp only [Act.put]
        refine wpAnyH_take (i := 3) (v := .int .i64 (20 + 6 * (a : Int))) rfl (by kernel_rfl) (by kernel_rfl) (by kernel_rfl) (fun _ _ _ h => h) (Or.inl ⟨by rfl, fun w' hw' => by have h := e2; go_simp⟩) hH ?_
        simp only [Act.put]
        refine wpAnyH_take (i := 4) (v := .int .i64 (k : Int)) rfl (by kernel_rfl) (by kernel_rfl) (by kernel_rfl) (fun _ _ _ h => h) (Or.inl ⟨by rfl, fun w' hw' => by clear hw'; go_simp⟩) hH ?_
        simp only [Act.put]
        refine wpAnyH_take (i := 5) (v := .int .i64 (20 + 6 * (a : Int) + (k : Int))) rfl (by kernel_rfl) (by kernel_rfl) (by kernel_rfl) (fun _ _ _ h => h) (Or.inl ⟨by rfl, fun w' hw' => by have h := e3; go_simp⟩) hH ?_
        simp only [Act.put]
        refine wpAnyH_take (i := 6) (v := .slice (some ⟨g, o, none⟩) l cap) rfl (by kernel_rfl) (by kernel_rfl) (by kernel_rfl) (fun _ _ _ h => h) (Or.inl ⟨by rfl, fun w' hw' => by clear hw'; go_simp⟩) hH ?_
        simp only [Act.put]
        refine wpAnyH_take (i := 7) (v := .int .i64 (n : Int)) rfl (by kernel_rfl) (by kernel_rfl) (by kernel_rfl) (fun _ _ _ h => h) (Or.inl ⟨by rfl, fun w' hw' => by clear hw'; go_simp⟩) hH ?_
        simp only [Act.put]
        refine wpAnyH_take (i := 8) (v := .pointer (some ⟨g, o + n, none⟩)) rfl (by kernel_rfl) (by kernel_rfl) (by kernel_rfl) (fun _ _ _ h => h) (Or.inl ⟨by rfl, fun w' hw' => by clear hw'; go_simp⟩) hH ?_
        simp only [Act.put]
        refine wpAnyH_take (i := 9) (v := .int .i64 y) rfl (by kernel_rfl) (by kernel_rfl) (by kernel_rfl) (fun _ _ _ h => h) (Or.inl ⟨by rfl, fun w' hw' => by have h := HC.out w' hw'; go_simp⟩) hH ?_
        simp only [Act.put]
        refine wpAnyH_take (i := 10) (v := .int .i64 (y / 8)) rfl (by kernel_rfl) (by kernel_rfl) (by kernel_rfl) (fun _ _ _ h => h) (Or.inl ⟨by rfl, fun w' hw' => by clear hw'; go_simp⟩) hH ?_
        simp only [Act.put]
        refine wpAnyH_take (i := 11) (v := .int .i64 (b : Int)) rfl (by kernel_rfl) (by kernel_rfl) (by kernel_rfl) (fun _ _ _ h => h) (Or.inl ⟨by rfl, fun w' hw' => by have h := hb; go_simp⟩) hH ?_
        simp only [Act.put]
        refine wpAnyH_take (i := 12) (v := .slice (some ⟨g, o, none⟩) l cap) rfl (by kernel_rfl) (by kernel_rfl) (by kernel_rfl) (fun _ _ _ h => h) (Or.inl ⟨by rfl, fun w' hw' => by clear hw'; go_simp⟩) hH ?_
        simp only [Act.put]
        refine wpAnyH_take (i := 13) (v := .int .i64 (n : Int)) rfl (by kernel_rfl) (by kernel_rfl) (by kernel_rfl) (fun _ _ _ h => h) (Or.inl ⟨by rfl, fun w' hw' => by clear hw'; go_simp⟩) hH ?_
        simp only [Act.put]
        refine wpAnyH_take (i := 14) (v := .pointer (some ⟨g, o + n, none⟩)) rfl (by kernel_rfl) (by kernel_rfl) (by kernel_rfl) (fun _ _ _ h => h) (Or.inl ⟨by rfl, fun w' hw' => by clear hw'; go_simp⟩) hH ?_
        simp only [Act.put]
        refine wpAnyH_take (i := 15) (v := .int .i64 y) rfl (by kernel_rfl) (by kernel_rfl) (by kernel_rfl) (fun _ _ _ h => h) (Or.inl ⟨by rfl, fun w' hw' => by have h := HC.out w' hw'; go_simp⟩) hH ?_
        simp only [Act.put]
        refine wpAnyH_take (i := 16) (v := .int .i64 (y / 2048)) rfl (by kernel_rfl) (by kernel_rfl) (by kernel_rfl) (fun _ _ _ h => h) (Or.inl ⟨by rfl, fun w' hw' => by clear hw'; go_simp⟩) hH ?_
        simp only [Act.put]
        refine wpAnyH_take (i := 17) (v := .int .i64 (c : Int)) rfl (by kernel_rfl) (by kernel_rfl) (by kernel_rfl) (fun _ _ _ h => h) (Or.inl ⟨by rfl, fun w' hw' => by have h := hc; go_simp⟩) hH ?_
        simp only [Act.put]
        refine wpAnyH_take (i := 18) (v := .int .i64 (1 + (c : Int))) rfl (by kernel_rfl) (by kernel_rfl) (by kernel_rfl) (fun _ _ _ h => h) (Or.inl ⟨by rfl, fun w' hw' => by have h := hcw; go_simp⟩) hH ?_
        simp only [Act.put]
        refine wpAnyH_ready (rs := [19]) (by kernel_rfl) (by simp) ?_
        refine AllReadyH.cons rfl (fun K hK => ?_) AllReadyH.nil
        go_simp
        go_at_call 15
        refine (HROT.out _ HD.out.drew).mono ?_
        rintro e w9 ⟨rfl, hd9, k9⟩
        go_wp2_with fail
        refine hK.out _ _ (BA.out.trans (hd9.below.mono BA.out.size)) (fun hH => ?_)
        clear hK K
        try simp only [Act.put]
        refine wpAnyH_take (i := 20) (v := .bool false) rfl (by kernel_rfl) (by kernel_rfl) (by kernel_rfl) (fun _ _ _ h => h) (Or.inl ⟨by rfl, fun w' hw' => by have h := hx; go_simp⟩) hH ?_
        simp only [Act.put]
        refine wpAnyH_done (by kernel_rfl) ?_ _
        try simp only [Act.put]
        go_wp2_with fail
        exact ⟨⟨n + 1, by omega, by go_num, S, K, hmi, hd9, k9.row HRB.out (by simp), k9.row HRQ.out (by simp)⟩, by simp [intOf]; omega⟩
      · have HM2 := hid hm2
        clear hm2
        have HROT : Hid (∀ W, Dd wa W p gs S [gb, w2.heap.size] → Calls Try.prog 15 #[.pointer (some ⟨p, 0, none⟩), .int .i64 (20 + 6 * (a : Int) + (k : Int)), .int .i64 (b : Int), .int .i64 (1 + (c : Int))] W (DC wa W p gs S' [gb, w2.heap.size] (.int .i64 0))) := hid fun W hW => by
          have h3 := dd_rot hW (by omega) _ _ _ hrot
          rw [hcast] at h3
          exact h3
        clear hrot hcn
        refine wp_region_held_drew (S := fun W => Below w.heap.size w W) (by kernel_rfl) (HBW.out.drew) (fun hH => ?_)
        refine wpAnyH_take (i := 0) (v := .pointer (some ⟨p, 0, none⟩)) rfl (by kernel_rfl) (by kernel_rfl) (by kernel_rfl) (fun _ _ _ h => h) (Or.inl ⟨by rfl, fun w' hw' => by clear hw'; go_simp⟩) hH ?_
        simp only [Act.put]
        refine wpAnyH_take (i := 1) (v := .int .i64 (a : Int)) rfl (by kernel_rfl) (by kernel_rfl) (by kernel_rfl) (fun _ _ _ h => h) (Or.inl ⟨by rfl, fun w' hw' => by clear hw'; go_simp⟩) hH ?_
        simp only [Act.put]
        refine wpAnyH_take (i := 2) (v := .int .i64 (6 * (a : Int))) rfl (by kernel_rfl) (by kernel_rfl) (by kernel_rfl) (fun _ _ _ h => h) (Or.inl ⟨by rfl, fun w' hw' => by have h := e1; go_simp⟩) hH ?_
        simp only [Act.put]
        refine wpAnyH_take (i := 3) (v := .int .i64 (20 + 6 * (a : Int))) rfl (by kernel_rfl) (by kernel_rfl) (by kernel_rfl) (fun _ _ _ h => h) (Or.inl ⟨by rfl, fun w' hw' => by have h := e2; go_simp⟩) hH ?_
        simp only [Act.put]
        refine wpAnyH_take (i := 4) (v := .int .i64 (k : Int)) rfl (by kernel_rfl) (by kernel_rfl) (by kernel_rfl) (fun _ _ _ h => h) (Or.inl ⟨by rfl, fun w' hw' => by clear hw'; go_simp⟩) hH ?_
        simp only [Act.put]
        refine wpAnyH_take (i := 5) (v := .int .i64 (20 + 6 * (a : Int) + (k : Int))) rfl (by kernel_rfl) (by kernel_rfl) (by kernel_rfl) (fun _ _ _ h => h) (Or.inl ⟨by rfl, fun w' hw' => by have h := e3; go_simp⟩) hH ?_
        simp only [Act.put]
        refine wpAnyH_take (i := 6) (v := .slice (some ⟨g, o, none⟩) l cap) rfl (by kernel_rfl) (by kernel_rfl) (by kernel_rfl) (fun _ _ _ h => h) (Or.inl ⟨by rfl, fun w' hw' => by clear hw'; go_simp⟩) hH ?_
        simp only [Act.put]
        refine wpAnyH_take (i := 7) (v := .int .i64 (n : Int)) rfl (by kernel_rfl) (by kernel_rfl) (by kernel_rfl) (fun _ _ _ h => h) (Or.inl ⟨by rfl, fun w' hw' => by clear hw'; go_simp⟩) hH ?_
        simp only [Act.put]
        refine wpAnyH_take (i := 8) (v := .pointer (some ⟨g, o + n, none⟩)) rfl (by kernel_rfl) (by kernel_rfl) (by kernel_rfl) (fun _ _ _ h => h) (Or.inl ⟨by rfl, fun w' hw' => by clear hw'; go_simp⟩) hH ?_
        simp only [Act.put]
        refine wpAnyH_take (i := 9) (v := .int .i64 y) rfl (by kernel_rfl) (by kernel_rfl) (by kernel_rfl) (fun _ _ _ h => h) (Or.inl ⟨by rfl, fun w' hw' => by have h := HC.out w' hw'; go_simp⟩) hH ?_
        simp only [Act.put]
        refine wpAnyH_take (i := 10) (v := .int .i64 (y / 8)) rfl (by kernel_rfl) (by kernel_rfl) (by kernel_rfl) (fun _ _ _ h => h) (Or.inl ⟨by rfl, fun w' hw' => by clear hw'; go_simp⟩) hH ?_
        simp only [Act.put]
        refine wpAnyH_take (i := 11) (v := .int .i64 (b : Int)) rfl (by kernel_rfl) (by kernel_rfl) (by kernel_rfl) (fun _ _ _ h => h) (Or.inl ⟨by rfl, fun w' hw' => by have h := hb; go_simp⟩) hH ?_
        simp only [Act.put]
        refine wpAnyH_take (i := 12) (v := .slice (some ⟨g, o, none⟩) l cap) rfl (by kernel_rfl) (by kernel_rfl) (by kernel_rfl) (fun _ _ _ h => h) (Or.inl ⟨by rfl, fun w' hw' => by clear hw'; go_simp⟩) hH ?_
        simp only [Act.put]
        refine wpAnyH_take (i := 13) (v := .int .i64 (n : Int)) rfl (by kernel_rfl) (by kernel_rfl) (by kernel_rfl) (fun _ _ _ h => h) (Or.inl ⟨by rfl, fun w' hw' => by clear hw'; go_simp⟩) hH ?_
        simp only [Act.put]
        refine wpAnyH_take (i := 14) (v := .pointer (some ⟨g, o + n, none⟩)) rfl (by kernel_rfl) (by kernel_rfl) (by kernel_rfl) (fun _ _ _ h => h) (Or.inl ⟨by rfl, fun w' hw' => by clear hw'; go_simp⟩) hH ?_
        simp only [Act.put]
        refine wpAnyH_take (i := 15) (v := .int .i64 y) rfl (by kernel_rfl) (by kernel_rfl) (by kernel_rfl) (fun _ _ _ h => h) (Or.inl ⟨by rfl, fun w' hw' => by have h := HC.out w' hw'; go_simp⟩) hH ?_
        simp only [Act.put]
        refine wpAnyH_take (i := 16) (v := .int .i64 (y / 2048)) rfl (by kernel_rfl) (by kernel_rfl) (by kernel_rfl) (fun _ _ _ h => h) (Or.inl ⟨by rfl, fun w' hw' => by clear hw'; go_simp⟩) hH ?_
        simp only [Act.put]
        refine wpAnyH_take (i := 17) (v := .int .i64 (c : Int)) rfl (by kernel_rfl) (by kernel_rfl) (by kernel_rfl) (fun _ _ _ h => h) (Or.inl ⟨by rfl, fun w' hw' => by have h := hc; go_simp⟩) hH ?_
        simp only [Act.put]
        refine wpAnyH_take (i := 18) (v := .int .i64 (1 + (c : Int))) rfl (by kernel_rfl) (by kernel_rfl) (by kernel_rfl) (fun _ _ _ h => h) (Or.inl ⟨by rfl, fun w' hw' => by have h := hcw; go_simp⟩) hH ?_
        simp only [Act.put]
        refine wpAnyH_ready (rs := [19]) (by kernel_rfl) (by simp) ?_
        refine AllReadyH.cons rfl (fun K hK => ?_) AllReadyH.nil
        go_simp
        go_at_call 15
        refine (HROT.out _ HD.out.drew).mono ?_
        rintro e w9 ⟨rfl, hd9, k9⟩
        go_wp2_with fail
        refine hK.out _ _ (BA.out.trans (hd9.below.mono BA.out.size)) (fun hH => ?_)
        clear hK K
        try simp only [Act.put]
        refine wpAnyH_take (i := 20) (v := .bool true) rfl (by kernel_rfl) (by kernel_rfl) (by kernel_rfl) (fun _ _ _ h => h) (Or.inl ⟨by rfl, fun w' hw' => by clear hw'; go_simp⟩) hH ?_
        simp only [Act.put]
        refine wpAnyH_done (by kernel_rfl) ?_ _
        try simp only [Act.put]
        have HD9 := hid hd9
        have HK9 := hid k9
        have RB9 := hid (k9.row HRB.out (by simp))
        have RQ9 := hid (k9.row HRQ.out (by simp))
        have HBS := hid (bads_set K (20 + 6 * a) m (show k < 6 by omega) hkm)
        clear hd9 k9
        go_wp2_with (refine wpl_store_c rfl 4 (.tmp 99) (.const (.bool true)) rfl gb k (.bool true) rfl rfl RB9.out sizeBool ?_ (hid (by rw [bads_len]; omega)) (hid rfl); intro w10 hr10 hg10; rw [HBS.out] at hr10; have RB10 := hid hr10; have HD10 := hid (HD9.out.put (by simp) HGB.out hg10); have RQ10 := hid (RQ9.out.grown hg10 (by intro q; exact HNE.out (Option.some.inj q))); clear hr10 hg10)
        exact ⟨⟨n + 1, by omega, by go_num, S', updJ K (20 + 6 * a + k) none, HM2, HD10.out, RB10.out, RQ10.out⟩, by simp [intOf]; omega⟩
  case rest =>
    obtain ⟨S, K, hmi, hd, hrb, hrq, -⟩ := hcut
    have HD := hid hd
    have HRB := hid hrb
    have HRQ := hid hrq
    have hcn := hmi.out.cnt
    have hml := mi_load hmi.out
    rw [HMM.out, HSM.out] at hml
    have hwl := wantL_all K (20 + 6 * a) m (6 - m)
    rw [show m + (6 - m) = 6 by omega] at hwl
    have HWL := hid hwl
    clear hd hrb hrq hwl H7 HMI RB R7
    have hld : ∀ R, loadK chG K (20 + 6 * a) s.size SM = R → Hid (∀ (W : World), Dd wa W p gs S [gb, w2.heap.size] → Calls Try.prog 13 #[.pointer (some ⟨p, 0, none⟩), .int .i64 (a : Int), .int .i64 (s.size : Int), .agg (sixL SM).toArray] W fun e w' => ∃ v, e = .returned (.tuple #[.string ⟨R.1.toArray⟩, v, .int .i64 0]) ∧ Ms W w' v R.2 ∧ Below W.heap.size W w') := fun R hR => hid fun W hW => by
      have h1 := gload_any hW (by omega) a ha1 hmi.out.rot.on hmi.out.n s.size (by omega) SM
      rw [hR] at h1
      exact h1
    rw [hsl] at hml
    by_cases hms : misG K (20 + 6 * a) m = []
    · rw [if_pos hms] at hml
      have HL := hld _ hml
      clear hld
      have HLF : Hid (∀ (W : World), Dd wa W p gs S [gb, w2.heap.size] → Calls Try.prog 13 #[.pointer (some ⟨p, 0, none⟩), .int .i64 (a : Int), .int .i64 (s.size : Int), .agg (sixL SM).toArray] W fun e w' => ∃ A6 cap6, e = .returned (.tuple #[.string s, .slice A6 0 cap6, .int .i64 0]) ∧ Below W.heap.size W w') := hid fun W hW => by
        refine (HL.out W hW).mono ?_
        rintro e w' ⟨v, rfl, hv, hb⟩
        obtain ⟨A6, cap6, rfl⟩ := Ms.nil hv
        exact ⟨A6, cap6, by simp only [mk_sb], hb⟩
      clear HL hml
      go_upto_block 2 with (first
        | (refine wpList_load_row rfl 29 (.tmp 9) rfl w2.heap.size rfl 29 (sixL SM).toArray (0, 0) _ HRQ.out.arr Try.underlying29 rfl HZ6.out ?_)
        | (go_at_call 13; refine (HLF.out _ HD.out).mono ?_; rintro e w10 ⟨A6, cap6, rfl, hb10⟩; have HD10 := hid (HD.out.new hb10).1; have RB10 := hid (HRB.out.below hb10 HRB.out.lt); have RQ10 := hid (HRQ.out.below hb10 HRQ.out.lt); clear hb10))
      have HO0 := hid (World.ownsRow_made (e := 3) (base := w10.heap.size) (size := 1) w10 #[] 0 (Nat.le_refl _) (by decide) rfl)
      have HB0 := hid ((Below.refl w10.heap.size w10).alloc (Nat.le_refl _) (.cells #[] 3))
      go_wp2_with fail
      go_loopw [18, 19] (fun wv iv wr => ∃ k : Nat, k ≤ 6 ∧ iv = .int .i64 (k : Int) ∧ wr.ownsRow w10.heap.size 3 1 wv (wantL K (20 + 6 * a) m k).length (nints (wantL K (20 + 6 * a) m k)) ∧ Below w10.heap.size w10 wr) (fun _ iv _ => 6 - (intOf iv).toNat)
      case atStart => exact ⟨0, Nat.zero_le _, rfl, HO0.out, HB0.out⟩
      case round =>
        obtain ⟨k, hk, rfl, how, hbe⟩ := hrel
        have HOW := hid how
        have HBE := hid hbe
        have hcb := (RB10.out.below hbe RB10.out.lt).cell k
        have hwk := wantL_succ K (20 + 6 * a) m k
        have hwn := wantL_len K (20 + 6 * a) m k
        clear how hbe
        by_cases hlt : k < 6
        · have hli : (k : Int) < 6 := by omega
          have h0k : (0 : Int) ≤ (k : Int) := by omega
          rw [bads_get K (20 + 6 * a) m hlt] at hcb
          generalize wantL K (20 + 6 * a) m k = WL at *
          by_cases hb : badB K (20 + 6 * a) m k = true
          · rw [if_pos hb] at hwk
            rw [hb] at hcb
            have HWK := hid hwk
            have HONE : Hid (∀ u ∈ [Value.int .i64 (k : Int)], u.oneCell' = true) := hid (by intro u hu; simp at hu; subst hu; rfl)
            clear hwk hb
            go_wp2_with (with_reducible refine wpList_append_lies _ rfl (.tmp 119) (.tmp 121) 22 rfl w10.heap.size 3 iI _ 1 8 Try.underlying22 hiI hz0 hz1 hz2 rfl (by decide) u18 WL.length (nints WL) rfl (HOW.out.alloc _) ⟨wr.heap.size, 0, none⟩ 1 1 [.int .i64 (k : Int)] rfl rfl (one_newsG _ _ _) HONE.out (by decide) (le_maxLen (by omega)) (by omega) (by have := HBE.out.size; simp; omega) (wr.heap.size + 1) (by simp) ?_; intro gw cw w3 ho hg hat hlt3; have HOW3 := hid ho; have HBE3 := hid ((HBE.out.alloc HBE.out.size (.cells #[.int .i64 (k : Int)] 3)).grown hg (by have := HBE.out.size; simp; omega) (fun x hx => (HOW.out.lt x hx).1)); clear ho hg hat hlt3)
            go_roundw
            case rel => exact ⟨k + 1, by omega, by go_num, by rw [HWK.out, List.length_append]; simpa [nints] using HOW3.out, HBE3.out⟩
            case measure => simp [intOf]; omega
          · rw [if_neg hb] at hwk
            have hb2 : badB K (20 + 6 * a) m k = false := by simpa using hb
            rw [hb2] at hcb
            have HWK := hid hwk
            clear hwk hb hb2
            go_wp2_with fail
            go_roundw
            case rel => exact ⟨k + 1, by omega, by go_num, by rw [HWK.out]; exact HOW.out, HBE.out⟩
            case measure => simp [intOf]; omega
        · obtain rfl : k = 6 := by omega
          clear hcb hwk
          rw [HWL.out] at HOW hwn
          obtain ⟨A8, c8, hu8, hc8, hr8⟩ := own_form HOW.out
          subst hu8
          have HR8 := hid hr8
          have hd11 := HD10.out.new HBE.out
          have HD11 := hid hd11.1
          have RQ11 := hid (RQ10.out.below HBE.out RQ10.out.lt)
          clear hr8 hd11 RB10 HOW
          rw [hms] at HR8
          have h0l : (misG K (20 + 6 * a) m).length = 0 := by rw [hms]; rfl
          rw [h0l] at hc8 hwn ⊢
          have HSA := hid (gsame_any A6 A8 [] 0 cap6 c8 wr Rd.nil HR8.out rfl (Nat.zero_le _) (Nat.zero_le _) (by decide))
          clear h0l HR8
          go_upto_block 4 with (go_at_call 16; refine HSA.out.mono ?_; rintro e w12 ⟨rfl, hb12⟩; have HD12 := hid (HD11.out.new hb12).1; have RQ12 := hid (RQ11.out.below hb12 RQ11.out.lt); clear hb12)
          go_wp2_with fail
          go_loopw [20] (fun iv wr => iv = .int .i64 0 ∧ Dd wa wr p gs S [gb, w2.heap.size] ∧ Row wr w2.heap.size 29 (sixL SM).toArray.toList) (fun _ _ => 0)
          case atStart => exact ⟨rfl, HD12.out, RQ12.out⟩
          case round =>
            obtain ⟨rfl, hd13, hq13⟩ := hrel
            have HD13 := hid hd13
            have RQ13 := hid hq13
            clear hd13 hq13
            go_wp2_with (first
              | (refine wpList_load_row rfl 29 (.tmp 9) rfl w2.heap.size rfl 29 (sixL SM).toArray (0, 0) _ RQ13.out.arr Try.underlying29 rfl HZ6.out ?_)
              | (go_at_call 13; refine (HLF.out _ HD13.out).mono ?_; rintro e w14 ⟨A9, cap9, rfl, hb14⟩; have HB14 := hid (BA.out.trans ((HD13.out.below.trans (hb14.mono HD13.out.size)).mono BA.out.size)); clear hb14))
            go_ret
            exact ⟨rfl, HB14.out⟩
    · rw [if_neg hms] at hml
      have HL := hld _ hml
      clear hld
      have HV : Hid (∀ W W' v, Ms W W' v (misG K (20 + 6 * a) m) → ∃ g6 cap6 ob, v = .slice (some ⟨g6, 0, none⟩) (misG K (20 + 6 * a) m).length cap6 ∧ W.heap.size ≤ g6 ∧ g6 < W'.heap.size ∧ (misG K (20 + 6 * a) m).length ≤ cap6 ∧ W'.heap[g6]? = some ob ∧ ∀ W'' : World, W''.heap[g6]? = some ob → ∀ j u, (nints (misG K (20 + 6 * a) m))[j]? = some u → W''.cell? ⟨g6, j, none⟩ = some u) := hid fun W W' v hv => by
        rcases hv with ⟨q, _⟩ | ⟨g6, cap6, e, q0, q1, q2, ob, q3, q4⟩
        · exact absurd q hms
        · exact ⟨g6, cap6, ob, e, q1, q2, q0, q3, q4⟩
      have hse : s ≠ ⟨#[]⟩ := fun q => by
        have h1 : s.size = 0 := by rw [q]; rfl
        have h2 : m = 0 := by
          have h3 := HMM.out
          have h4 : cntG (sb s).length = ((sb s).length + 319) / 320 := rfl
          omega
        rw [h2] at hms
        exact hms rfl
      clear hml
      go_upto_block 2 with (first
        | (refine wpList_load_row rfl 29 (.tmp 9) rfl w2.heap.size rfl 29 (sixL SM).toArray (0, 0) _ HRQ.out.arr Try.underlying29 rfl HZ6.out ?_)
        | (go_at_call 13; refine (HL.out _ HD.out).mono ?_; rintro e w10 ⟨v, rfl, hv, hb10⟩; obtain ⟨g6, cap6, ob, rfl, hg6, hl6, hq6, ho6, hc6⟩ := HV.out _ _ _ hv; have HC6 := hid hc6; have HD10 := hid (HD.out.add hb10 hg6 hl6); have RB10 := hid (HRB.out.below hb10 HRB.out.lt); have RQ10 := hid (HRQ.out.below hb10 HRQ.out.lt); clear hb10 hv hc6))
      have HO0 := hid (World.ownsRow_made (e := 3) (base := w10.heap.size) (size := 1) w10 #[] 0 (Nat.le_refl _) (by decide) rfl)
      have HB0 := hid ((Below.refl w10.heap.size w10).alloc (Nat.le_refl _) (.cells #[] 3))
      go_wp2_with fail
      go_loopw [18, 19] (fun wv iv wr => ∃ k : Nat, k ≤ 6 ∧ iv = .int .i64 (k : Int) ∧ wr.ownsRow w10.heap.size 3 1 wv (wantL K (20 + 6 * a) m k).length (nints (wantL K (20 + 6 * a) m k)) ∧ Below w10.heap.size w10 wr) (fun _ iv _ => 6 - (intOf iv).toNat)
      case atStart => exact ⟨0, Nat.zero_le _, rfl, HO0.out, HB0.out⟩
      case round =>
        obtain ⟨k, hk, rfl, how, hbe⟩ := hrel
        have HOW := hid how
        have HBE := hid hbe
        have hcb := (RB10.out.below hbe RB10.out.lt).cell k
        have hwk := wantL_succ K (20 + 6 * a) m k
        have hwn := wantL_len K (20 + 6 * a) m k
        clear how hbe
        by_cases hlt : k < 6
        · have hli : (k : Int) < 6 := by omega
          have h0k : (0 : Int) ≤ (k : Int) := by omega
          rw [bads_get K (20 + 6 * a) m hlt] at hcb
          generalize wantL K (20 + 6 * a) m k = WL at *
          by_cases hb : badB K (20 + 6 * a) m k = true
          · rw [if_pos hb] at hwk
            rw [hb] at hcb
            have HWK := hid hwk
            have HONE : Hid (∀ u ∈ [Value.int .i64 (k : Int)], u.oneCell' = true) := hid (by intro u hu; simp at hu; subst hu; rfl)
            clear hwk hb
            go_wp2_with (with_reducible refine wpList_append_lies _ rfl (.tmp 119) (.tmp 121) 22 rfl w10.heap.size 3 iI _ 1 8 Try.underlying22 hiI hz0 hz1 hz2 rfl (by decide) u18 WL.length (nints WL) rfl (HOW.out.alloc _) ⟨wr.heap.size, 0, none⟩ 1 1 [.int .i64 (k : Int)] rfl rfl (one_newsG _ _ _) HONE.out (by decide) (le_maxLen (by omega)) (by omega) (by have := HBE.out.size; simp; omega) (wr.heap.size + 1) (by simp) ?_; intro gw cw w3 ho hg hat hlt3; have HOW3 := hid ho; have HBE3 := hid ((HBE.out.alloc HBE.out.size (.cells #[.int .i64 (k : Int)] 3)).grown hg (by have := HBE.out.size; simp; omega) (fun x hx => (HOW.out.lt x hx).1)); clear ho hg hat hlt3)
            go_roundw
            case rel => exact ⟨k + 1, by omega, by go_num, by rw [HWK.out, List.length_append]; simpa [nints] using HOW3.out, HBE3.out⟩
            case measure => simp [intOf]; omega
          · rw [if_neg hb] at hwk
            have hb2 : badB K (20 + 6 * a) m k = false := by simpa using hb
            rw [hb2] at hcb
            have HWK := hid hwk
            clear hwk hb hb2
            go_wp2_with fail
            go_roundw
            case rel => exact ⟨k + 1, by omega, by go_num, by rw [HWK.out]; exact HOW.out, HBE.out⟩
            case measure => simp [intOf]; omega
        · obtain rfl : k = 6 := by omega
          clear hcb hwk
          rw [HWL.out] at HOW hwn
          obtain ⟨A8, c8, hu8, hc8, hr8⟩ := own_form HOW.out
          subst hu8
          have HR8 := hid hr8
          have hd11 := HD10.out.new HBE.out
          have HD11 := hid hd11.1
          have RQ11 := hid (RQ10.out.below HBE.out RQ10.out.lt)
          clear hr8 hd11 RB10 HOW
          have HO6 : Hid (wr.heap[g6]? = some ob) := hid ((HBE.out.block g6 hl6).trans ho6)
          have hr6 : Rd wr wr.heap.size (some ⟨g6, 0, none⟩) (nints (misG K (20 + 6 * a) m)) := fun _ => ⟨g6, 0, rfl, Nat.lt_of_lt_of_le hl6 HBE.out.size, fun j u hu => by rw [Nat.zero_add]; exact HC6.out wr HO6.out j u hu⟩
          have HSA := hid (gsame_any (some ⟨g6, 0, none⟩) A8 (misG K (20 + 6 * a) m) (misG K (20 + 6 * a) m).length cap6 c8 wr hr6 HR8.out rfl hq6 hc8 (by omega))
          have hmpos : 0 < (misG K (20 + 6 * a) m).length := List.length_pos_iff.2 hms
          have hmp2 : (((misG K (20 + 6 * a) m).length : Int) == 0) = false := by simpa using hms
          have hsne : s ≠ ⟨#[]⟩ := hse
          clear hr6
          generalize hmsd : misG K (20 + 6 * a) m = ms at *
          have hE1 : ((⟨#[]⟩ : ByteArray).toList == s.toList) = false := str_ne (fun q => hse q.symm)
          have hE2 : s.toList.isEmpty = false := by
            rw [Bool.eq_false_iff]
            intro q
            have q2 : s.toList = [] := List.isEmpty_iff.1 q
            rw [q2, show (⟨#[]⟩ : ByteArray).toList = [] by decide +kernel] at hE1
            exact absurd hE1 (by decide)
          have hE3 : ¬ s.toList = [] := fun q => by rw [q] at hE2; cases hE2
          clear hms hse hc8 HR8 hsne
          go_upto_block 4 with (go_at_call 16; refine HSA.out.mono ?_; rintro e w12 ⟨rfl, hb12⟩; have HD12 := hid (HD11.out.new hb12).1; have RQ12 := hid (RQ11.out.below hb12 RQ11.out.lt); have HO12 := hid ((hb12.block g6 (Nat.lt_of_lt_of_le hl6 HBE.out.size)).trans HO6.out); clear hb12)
          have HMS := hid hmsd
          have HP0 := hid (pu_first hmi.out)
          clear hE1 hE2 hE3 hmp2 hmpos hmsd
          go_wp2_with fail
          go_loopw [20] (fun iv wr => ∃ n : Nat, n ≤ ms.length ∧ iv = .int .i64 (n : Int) ∧ ∃ Sn, Hid (PuG (sb s) (20 + 6 * a) K n Sn) ∧ Dd wa wr p gs Sn [g6, gb, w2.heap.size] ∧ wr.heap[g6]? = some ob ∧ Row wr w2.heap.size 29 (sixL SM).toArray.toList) (fun iv _ => ms.length - (intOf iv).toNat)
          case atStart => exact ⟨0, Nat.zero_le _, rfl, S, HP0, HD12.out, HO12.out, RQ12.out⟩
          case round =>
            obtain ⟨n, hn, rfl, Sn, hpu, hd13, ho13, hq13⟩ := hrel
            have HD13 := hid hd13
            have HO13 := hid ho13
            have RQ13 := hid hq13
            have hcn := hpu.out.cnt
            clear hd13 ho13 hq13
            by_cases hlt : n < ms.length
            · have hlt2 : n < (misG K (20 + 6 * a) (cntG (sb s).length)).length := by rw [HMM.out, HMS.out]; exact hlt
              have hmlt := mis_lt hlt2
              obtain ⟨Sx, ew, hpx⟩ := pu_put hpu.out hlt2 (by rw [HMM.out]; omega)
              obtain ⟨x, hx⟩ : ∃ x, (misG K (20 + 6 * a) (cntG (sb s).length))[n] = x := ⟨_, rfl⟩
              rw [hx] at ew hmlt
              have hxm : ms[n]? = some x := by
                have h1 := List.getElem?_eq_getElem hlt2
                rw [hx] at h1
                rw [← HMS.out, ← HMM.out]
                exact h1
              have HPX := hid hpx
              have hxl : x < m := by rw [HMM.out] at hmlt; exact hmlt
              have HPI : Hid (∀ W, Calls Try.prog 18 #[.string s, .int .i64 (x : Int)] W fun e w' => e = .returned (.string ⟨(pieceG (sb s) x).toArray⟩) ∧ W = w') := hid fun W => rpiece_any s x (by omega) (by rw [← hsl, HMM.out]; exact hxl) W
              have hpl := piece_le (sb s) x
              have HPU : Hid (∀ W, Dd wa W p gs Sn [g6, gb, w2.heap.size] → Calls Try.prog 17 #[.pointer (some ⟨p, 0, none⟩), .int .i64 (a : Int), .int .i64 (x : Int), .string ⟨(pieceG (sb s) x).toArray⟩] W (DC wa W p gs Sx [g6, gb, w2.heap.size] (.int .i64 0))) := hid fun W hW => by
                have hsz : (⟨(pieceG (sb s) x).toArray⟩ : ByteArray).size = (pieceG (sb s) x).length := by simp [ByteArray.size]
                have h1 := gput_any hW (by omega) a x ha1 (by omega) ⟨(pieceG (sb s) x).toArray⟩ (by omega)
                rw [show sb ⟨(pieceG (sb s) x).toArray⟩ = pieceG (sb s) x from sb_mk _, ew] at h1
                exact h1
              have HX : Hid (∀ W : World, W.heap[g6]? = some ob → W.cell? ⟨g6, n, none⟩ = some (.int .i64 (x : Int))) := hid fun W hW => HC6.out W hW n _ (by simp [nints, hxm])
              generalize (⟨(pieceG (sb s) x).toArray⟩ : ByteArray) = PB at *
              have hli : (n : Int) < (ms.length : Int) := by omega
              have h0n : (0 : Int) ≤ (n : Int) := by omega
              clear ew hx hpx hxm
              go_wp2_with fail
              refine wp_region_held_drew (S := fun W => W.heap[g6]? = some ob) (by kernel_rfl) (HO13.out) (fun hH => ?_)
              refine wpAnyH_take (i := 0) (v := .pointer (some ⟨p, 0, none⟩)) rfl (by kernel_rfl) (by kernel_rfl) (by kernel_rfl) (fun _ _ _ h => h) (Or.inl ⟨by rfl, fun w' hw' => by clear hw'; go_simp⟩) hH ?_
              simp only [Act.put]
              refine wpAnyH_take (i := 1) (v := .int .i64 (a : Int)) rfl (by kernel_rfl) (by kernel_rfl) (by kernel_rfl) (fun _ _ _ h => h) (Or.inl ⟨by rfl, fun w' hw' => by clear hw'; go_simp⟩) hH ?_
              simp only [Act.put]
              refine wpAnyH_take (i := 2) (v := .slice (some ⟨g6, 0, none⟩) ms.length cap6) rfl (by kernel_rfl) (by kernel_rfl) (by kernel_rfl) (fun _ _ _ h => h) (Or.inl ⟨by rfl, fun w' hw' => by clear hw'; go_simp⟩) hH ?_
              simp only [Act.put]
              refine wpAnyH_take (i := 3) (v := .int .i64 (n : Int)) rfl (by kernel_rfl) (by kernel_rfl) (by kernel_rfl) (fun _ _ _ h => h) (Or.inl ⟨by rfl, fun w' hw' => by clear hw'; go_simp⟩) hH ?_
              simp only [Act.put]
              refine wpAnyH_take (i := 4) (v := .pointer (some ⟨g6, n, none⟩)) rfl (by kernel_rfl) (by kernel_rfl) (by kernel_rfl) (fun _ _ _ h => h) (Or.inl ⟨by rfl, fun w' hw' => by clear hw'; go_simp⟩) hH ?_
              simp only [Act.put]
              refine wpAnyH_take (i := 5) (v := .int .i64 (x : Int)) rfl (by kernel_rfl) (by kernel_rfl) (by kernel_rfl) (fun _ _ _ h => h) (Or.inl ⟨by rfl, fun w' hw' => by have h := HX.out w' hw'; go_simp⟩) hH ?_
              simp only [Act.put]
              refine wpAnyH_take (i := 6) (v := .string s) rfl (by kernel_rfl) (by kernel_rfl) (by kernel_rfl) (fun _ _ _ h => h) (Or.inl ⟨by rfl, fun w' hw' => by clear hw'; go_simp⟩) hH ?_
              simp only [Act.put]
              refine wpAnyH_take (i := 7) (v := .slice (some ⟨g6, 0, none⟩) ms.length cap6) rfl (by kernel_rfl) (by kernel_rfl) (by kernel_rfl) (fun _ _ _ h => h) (Or.inl ⟨by rfl, fun w' hw' => by clear hw'; go_simp⟩) hH ?_
              simp only [Act.put]
              refine wpAnyH_take (i := 8) (v := .int .i64 (n : Int)) rfl (by kernel_rfl) (by kernel_rfl) (by kernel_rfl) (fun _ _ _ h => h) (Or.inl ⟨by rfl, fun w' hw' => by clear hw'; go_simp⟩) hH ?_
              simp only [Act.put]
              refine wpAnyH_take (i := 9) (v := .pointer (some ⟨g6, n, none⟩)) rfl (by kernel_rfl) (by kernel_rfl) (by kernel_rfl) (fun _ _ _ h => h) (Or.inl ⟨by rfl, fun w' hw' => by clear hw'; go_simp⟩) hH ?_
              simp only [Act.put]
              refine wpAnyH_take (i := 10) (v := .int .i64 (x : Int)) rfl (by kernel_rfl) (by kernel_rfl) (by kernel_rfl) (fun _ _ _ h => h) (Or.inl ⟨by rfl, fun w' hw' => by have h := HX.out w' hw'; go_simp⟩) hH ?_
              simp only [Act.put]
              refine wpAnyH_ready (rs := [11]) (by kernel_rfl) (by simp) ?_
              refine AllReadyH.cons rfl (fun K hK => ?_) AllReadyH.nil
              go_simp
              go_at_call 18
              refine (HPI.out _).mono ?_
              rintro e w13 ⟨rfl, rfl⟩
              go_wp2_with fail
              refine hK.out _ _ (hH) (fun hH => ?_)
              clear hK K
              try simp only [Act.put]
              refine wpAnyH_ready (rs := [12]) (by kernel_rfl) (by simp) ?_
              refine AllReadyH.cons rfl (fun K hK => ?_) AllReadyH.nil
              go_simp
              go_at_call 17
              refine (HPU.out _ HD13.out.drew).mono ?_
              rintro e w14 ⟨rfl, hd14, k14⟩
              go_wp2_with fail
              refine hK.out _ _ ((k14 g6 (by simp)).trans hH) (fun hH => ?_)
              clear hK K
              try simp only [Act.put]
              refine wpAnyH_take (i := 13) (v := .bool false) rfl (by kernel_rfl) (by kernel_rfl) (by kernel_rfl) (fun _ _ _ h => h) (Or.inl ⟨by rfl, fun w' hw' => by clear hw'; go_simp⟩) hH ?_
              simp only [Act.put]
              refine wpAnyH_done (by kernel_rfl) ?_ _
              try simp only [Act.put]
              go_wp2_with fail
              go_roundw
              case rel => exact ⟨n + 1, by omega, by go_num, Sx, HPX, hd14, hH, k14.row RQ13.out (by simp)⟩
              case measure => simp [intOf]; omega
            · obtain rfl : n = ms.length := by omega
              obtain ⟨K9, hon9, hl9⟩ := pu_load hmi.out (by rw [HMM.out, HMS.out]; exact hpu.out)
              have hn9 := hpu.out.len
              have HLF : Hid (∀ (W : World), Dd wa W p gs Sn [g6, gb, w2.heap.size] → Calls Try.prog 13 #[.pointer (some ⟨p, 0, none⟩), .int .i64 (a : Int), .int .i64 (s.size : Int), .agg (sixL SM).toArray] W fun e w' => ∃ A6 cap6, e = .returned (.tuple #[.string s, .slice A6 0 cap6, .int .i64 0]) ∧ Below W.heap.size W w') := hid fun W hW => by
                have h1 := gload_any hW (by omega) a ha1 hon9 hn9 s.size (by omega) SM
                rw [← hsl, ← HSM.out, hl9] at h1
                rw [← hsl, ← HSM.out]
                refine h1.mono ?_
                rintro e w' ⟨v, rfl, hv, hb⟩
                obtain ⟨A6, cap6, rfl⟩ := Ms.nil hv
                exact ⟨A6, cap6, by simp only [mk_sb], hb⟩
              clear hon9 hl9 hn9
              go_wp2_with (first
                | (refine wpList_load_row rfl 29 (.tmp 9) rfl w2.heap.size rfl 29 (sixL SM).toArray (0, 0) _ RQ13.out.arr Try.underlying29 rfl HZ6.out ?_)
                | (go_at_call 13; refine (HLF.out _ HD13.out).mono ?_; rintro e w14 ⟨A9, cap9, rfl, hb14⟩; have HB14 := hid (BA.out.trans ((HD13.out.below.trans (hb14.mono HD13.out.size)).mono BA.out.size)); clear hb14))
              go_ret
              exact ⟨rfl, HB14.out⟩
end Go.Proofs.Ythlapdijnfcekaa
