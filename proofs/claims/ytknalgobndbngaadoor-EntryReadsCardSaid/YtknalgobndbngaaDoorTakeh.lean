/-
  The walk of package head's take.
-/
import Derived.Test.YtknalgobndbngaaDoorHnum
import Derived.Test.YtknalgobndbngaaDoorPreb
namespace Go.Proofs.YtknalgobndbngaaDoor
open Go.RowKit
set_option maxRecDepth 10000

/-- the numbers of the first k places, noughts behind them -/
def tkw (s : List UInt8) (k : Nat) : List Nat := (List.range k).map (tk s) ++ List.replicate (15 - k) 0
theorem tkw_len (s : List UInt8) (k : Nat) (h : k ≤ 15) : (tkw s k).length = 15 := by simp [tkw]; omega
theorem tkw_end (s : List UInt8) : tkw s 15 = takeN s := by simp [tkw, takeN]
theorem tkw_zero (s : List UInt8) : tkw s 0 = List.replicate 15 0 := by simp [tkw]
theorem tkw_set (s : List UInt8) (k : Nat) (h : k < 15) : (tkw s k).set k (tk s k) = tkw s (k + 1) := by
  have h1 : ((List.range k).map (tk s)).length = k := by simp
  unfold tkw
  rw [List.set_append_right _ _ (by rw [h1]; omega), h1, Nat.sub_self, show 15 - k = (15 - (k + 1)) + 1 by omega, List.replicate_succ, List.set_cons_zero, List.range_succ, List.map_append, List.append_assoc]
  rfl
theorem takeN_len (s : List UInt8) : (takeN s).length = 15 := by simp [takeN]

theorem off_more : ∀ k, k < 15 → off k + sz k ≤ 84 := by decide
theorem take_at (A : Option Addr) (bs : List UInt8) (c k B : Nat) (W : World) (hr : Rd W B A (bvs bs)) (hl : bs.length = 128) (hc : 128 ≤ c) (hk : k < 15) (hB : B ≤ W.heap.size) :
    Calls Tryd.prog 49 #[.slice A 128 c, .int .i64 ((4 + off k : Nat) : Int), .int .i64 (sz k : Int)] W
    fun e w' => e = .returned (.tuple #[.int .u64 ((tk bs k : Nat) : Int), .int .i64 0]) ∧ Below W.heap.size W w' := by
  have h := take_any A bs 128 c B ((4 + off k : Nat) : Int) (sz k) W hr hl.symm (by omega) hc hB
  have h1 := sz_lo k hk
  have h2 := off_more k hk
  have e : takeS bs ((4 + off k : Nat) : Int) (sz k) = (tk bs k, 0) := by
    unfold takeS
    rw [if_neg (by omega), if_neg (by omega)]
    rfl
  rw [e] at h
  exact h

set_option maxHeartbeats 1000000 in
theorem takeh_any (s : ByteArray) (h : s.size = 128) (w : World) (hf : Fd w) : Calls Tryd.prog 39 #[.string s] w (VE w (.agg (av (takeN (sb s))).toArray)) := by
  have HF := hid hf
  have HS := hid (sb_len s)
  have HZ := hid h
  have HT : Hid ((av (takeN (sb s))).toArray.size = 15) := hid (by simp [av, takeN])
  clear hf h
  go_enter Tryd.func39, Tryd.ntmps39
  go_wp2_with (with_reducible refine wpl_bytes rfl _ _ _ rfl 5 Tryd.underlying9 Tryd.underlying34 Tryd.underlying5 s rfl ?_; intro g c k0 w1 HG HC HR HB; rw [HZ.out])
  have hg : g = w.heap.size + 2 := by have := HG.out; simpa using this
  subst hg
  have hbe : Below w.heap.size w w1 := (((Below.refl _ _).alloc (Nat.le_refl _) _).alloc (by simp) _).trans (HB.mono (by simp; omega))
  have hr0 : Row w1 w.heap.size 53 (av (List.replicate 15 0)) := ((Row.new w 53 (av (List.replicate 15 0)).toArray).alloc _).below HB (by simp; omega)
  have hr1 : Row w1 (w.heap.size + 1) 53 (av (tkw (sb s) 0)) := by
    rw [tkw_zero]
    exact Row.below (B := w.heap.size + 2) (w := (w.alloc _).alloc _) (alloc2_new _ _ _) (HB.mono (by simp)) (by omega)
  have hsz1 := HR.lt
  clear HB HG
  have HE := hid hbe
  have H0 := hid hr0
  have H1 := hid hr1
  have HRD := hid HR
  clear hbe hr0 hr1 HR
  go_loopw [5, 9] (fun a i wr => ∃ k p : Nat, k ≤ 15 ∧ i = .int .i64 k ∧ a = .int .i64 (p : Int) ∧ Hid (p = 4 + off k) ∧ Row wr w.heap.size 53 (av (List.replicate 15 0)) ∧ Row wr (w.heap.size + 1) 53 (av (tkw (sb s) k)) ∧ FRow wr (w.heap.size + 2) 5 (bvs (sb s) ++ List.replicate k0 (.int .u8 0)) ∧ w.heap.size + 2 < wr.heap.size ∧ Below w.heap.size w wr) (fun _ i _ => 15 - (intOf i).toNat)
  case atStart => exact ⟨0, 4, by omega, rfl, rfl, hid rfl, H0.out, H1.out, HRD.out, hsz1, HE.out⟩
  case round =>
    obtain ⟨k, p, hk, rfl, rfl, hp, h0, h1, hfr, hsz, hbe⟩ := hrel
    have HE := hid hbe
    have H0 := hid h0
    have hrd : Rd wr (w.heap.size + 3) (some ⟨w.heap.size + 2, 0, none⟩) (bvs (sb s)) := by
      have := (hfr.rd (B := w.heap.size + 3) (by omega)).take (bvs (sb s)).length
      rwa [List.take_left] at this
    have HRD := hid hfr
    have hoff := off_le k hk
    by_cases hlt : k < 15
    · have hf := HF.out.below hbe HF.out.1
      have hcz := hf.size hlt
      have hsz1 := sz_lo k hlt
      have hP := (take_at _ (sb s) c k (w.heap.size + 3) wr hrd (by rw [HS.out, HZ.out]) (by rw [← HZ.out]; exact HC.out) hlt (by omega))
      rw [← hp.out] at hP
      have hst := fun (W : World) (hR : Row W (w.heap.size + 1) 53 (av (tkw (sb s) k))) => hR.set_ k (.int .u64 ((tk (sb s) k : Nat) : Int))
      have hcell : wr.cell? ⟨w.heap.size + 1, k, none⟩ = some (.int .u64 (((tkw (sb s) k)[k]'(by rw [tkw_len _ _ hk]; exact hlt) : Nat) : Int)) := by
        rw [h1.cell]
        exact av_get _ k (by rw [tkw_len _ _ hk]; exact hlt)
      have HP := hid hP
      have hp88 : p ≤ 88 := by rw [hp.out]; omega
      have H1 := hid h1
      clear hbe h0 h1 hrd hf hst hP hfr
      have HF2 := hid (fun (W : World) (hb : Below wr.heap.size wr W) => (HF.out.below HE.out HF.out.1).below hb (by omega))
      have HK : Hid (∀ W : World, Below wr.heap.size wr W → W.cell? ⟨w.heap.size + 1, k, none⟩ = some (.int .u64 (((tkw (sb s) k)[k]'(by rw [tkw_len _ _ hk]; exact hlt) : Nat) : Int)) ∧ W.frozen? ⟨w.heap.size + 1, k, none⟩ = false ∧ W.cell? ⟨0, k * 2, none⟩ = some (.int .i64 (sz k : Nat)) ∧
          Row (W.setCell ⟨w.heap.size + 1, k, none⟩ (.int .u64 ((tk (sb s) k : Nat) : Int))) (w.heap.size + 1) 53 (av (tkw (sb s) (k + 1)))) := hid fun W hb => by
        have h1 := H1.out.below hb (by omega)
        refine ⟨?_, h1.frozen _, (HF2.out W hb).size hlt, ?_⟩
        · rw [h1.cell]
          exact av_get _ k (by rw [tkw_len _ _ hk]; exact hlt)
        · have := h1.set_ k (.int .u64 ((tk (sb s) k : Nat) : Int))
          rw [av_set, tkw_set _ _ hlt] at this
          exact this
      have hn : Hid (p + sz k = 4 + off (k + 1)) := hid (by rw [hp.out, off]; omega)
      generalize (tkw (sb s) k)[k]'(by rw [tkw_len _ _ hk]; exact hlt) = y at hcell HK
      generalize tk (sb s) k = x at HP HK
      generalize sz k = z at *
      have h0k : ¬ (0 = w.heap.size + 1) := by omega
      go_wp2_with (go_at_call 49; refine HP.out.mono ?_; rintro e w2 ⟨rfl, hb2⟩; obtain ⟨q1, q2, q3, q4⟩ := HK.out w2 hb2; have Q4 := hid q4; clear q4)
      have hsz2 := hb2.size
      refine ⟨⟨k + 1, p + z, by omega, by go_num, by go_num, hn, (H0.out.below hb2 (by omega)).far (by simp) _, Q4.out, (HRD.out.below hb2 (by omega)).far (by simp) _, by simp; omega, (HE.out.trans (hb2.mono (by omega))).setCell (by simp) _⟩, by simp [intOf]; omega⟩
    · obtain rfl : k = 15 := by omega
      rw [tkw_end] at h1
      have H1 := hid h1
      clear h0 h1 hfr hrd hbe
      go_wp2_with (first
        | (refine wpList_load_row rfl 53 (.tmp 3) rfl (w.heap.size + 1) rfl 53 (av (takeN (sb s))).toArray (0, 0) _ H1.out Tryd.underlying53 rfl (by rw [HT.out]; kernel_rfl) ?_)
        | (refine wpList_store_row rfl 53 (.tmp 2) (.tmp 31) rfl w.heap.size (av (takeN (sb s))).toArray rfl rfl 53 (av (List.replicate 15 0)).toArray H0.out (by rw [HT.out]; kernel_rfl) (by rw [HT.out]; simp [av]) ?_ ?_))
      · rw [Array.all_eq_true']
        intro u hu
        exact av_one _ u (by simpa using hu)
      · have hg := setRow_heap wr w.heap.size _ (av (takeN (sb s))).toArray 53 (0, 0) H0.out
        exact bodyPost_ret (v := .agg (av (takeN (sb s))).toArray) (results_cell_row rfl _ _ w.heap.size 53 (av (takeN (sb s))).toArray (0, 0) _ rfl hg Tryd.underlying53 rfl (by rw [HT.out]; kernel_rfl)) rfl
          ⟨rfl, HE.out.trans (below_grown (grownBy_setRow wr w.heap.size _) (Nat.le_refl _) (by omega))⟩
end Go.Proofs.YtknalgobndbngaaDoor
