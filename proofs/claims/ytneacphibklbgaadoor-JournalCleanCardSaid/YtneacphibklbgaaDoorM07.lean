/-
  The walk of package head's lay.
-/
import Derived.Test.YtneacphibklbgaaDoorM05
import Derived.Test.YtneacphibklbgaaDoorM01
namespace Go.Proofs.YtneacphibklbgaaDoor
open Go.RowKit
set_option maxRecDepth 10000

theorem cat_mk (a b : List UInt8) : (⟨a.toArray⟩ : ByteArray) ++ ⟨b.toArray⟩ = ⟨(a ++ b).toArray⟩ := by
  apply ByteArray.ext
  simp
theorem BE.len9 {w w' : World} {r : List UInt8} {e : Ending} {n : Nat} {x : Int} (h : BE w (r, x) e w') (hn : r.length = n) :
    ∃ A c, e = .returned (.tuple #[.slice A n c, .int .i64 x]) ∧ w'.ownsRow w.heap.size 5 1 (.slice A n c) n (bvs r) ∧ Below w.heap.size w w' := by
  subst hn
  exact h
/-- Put of a number that fits -/
theorem put_fit (A : Option Addr) (bs : List UInt8) (c n s B : Nat) (W : World) (hr : Rd W B A (bvs bs)) (hs : 1 ≤ s ∧ s ≤ 8) (hn : n < 2 ^ (8 * s)) (hB : B ≤ W.heap.size) (hl : bs.length ≤ 140737488351232) :
    Calls Tryd.prog 94 #[.slice A bs.length c, .int .u64 (n : Int), .int .i64 (s : Int)] W
    fun e w' => ∃ A c, e = .returned (.tuple #[.slice A (bs.length + s) c, .int .i64 0]) ∧ w'.ownsRow W.heap.size 5 1 (.slice A (bs.length + s) c) (bs.length + s) (bvs (bs ++ le n s)) ∧ Below W.heap.size W w' := by
  have h := put_any A bs bs.length c n B s W hr rfl hB hl
  have e : putS bs n s = (bs ++ le n s, 0) := by
    unfold putS
    rw [if_pos ⟨by omega, by omega, Nat.div_eq_of_lt (by simpa using hn)⟩]
    simp
  rw [e] at h
  refine h.mono fun e w' hh => BE.len9 hh (by simp [le_len])
theorem sum_of9 (b : List UInt8) (hb : b.length ≤ 1000000) (W : World) : Calls Tryd.prog 90 #[.string ⟨b.toArray⟩] W fun e w' => e = .returned (.int .u32 ((addS 0#32 b).toNat : Int)) ∧ Below W.heap.size W w' := by
  have h := sum_calls ⟨b.toArray⟩ W (by rw [← sb_len, sb_mk]; omega)
  rw [sb_mk] at h
  exact h
theorem put_sum0 (x : BitVec 32) (W : World) : Calls Tryd.prog 94 #[.slice none 0 0, .int .u64 (x.toNat : Int), .int .i64 4] W
    fun e w' => ∃ A c, e = .returned (.tuple #[.slice A 4 c, .int .i64 0]) ∧ Rd w' w'.heap.size A (bvs (le x.toNat 4)) ∧ Below W.heap.size W w' := by
  have h := put_fit none [] 0 x.toNat 4 0 W Rd.nil (by omega) x.isLt (by omega) (by simp)
  refine h.mono fun e w' ⟨A, c, e1, ho, hb⟩ => ⟨A, c, e1, ?_, hb⟩
  obtain ⟨A', c', e2, _, _, hrd⟩ := own_shape ho
  cases e2
  exact hrd
theorem fits_lt {l : List Nat} (h : Fits l) (k : Nat) (hk : k < l.length) : l[k] < 2 ^ (8 * sz k) := Nat.lt_of_le_of_lt (h.2 k hk) (mo_lt k (by rw [← h.1]; exact hk))
set_option maxHeartbeats 1000000 in
theorem layh_any (l : List Nat) (hfit : Fits l) (w : World) (hf : Fd w) : Calls Tryd.prog 91 #[.agg (av l).toArray] w (SE w (headB l)) := by
  obtain ⟨i0, hi, hz0, hz1, hz2⟩ := info_parts u8info
  have HF := hid hf
  have HFit := hid hfit
  have HL := hid hfit.1
  have HA : Hid ((av l).toArray.size = 15) := hid (by simp [av, hfit.1])
  clear hf hfit
  go_enter Tryd.func91, Tryd.ntmps91
  go_wp2_with (refine wpList_load_row rfl 138 (.tmp 1) rfl w.heap.size rfl 138 (av l).toArray (0, 0) _ (heap_alloc_new _ _) Tryd.underlying138 rfl (by rw [HA.out]; kernel_rfl) ?_)
  have hb0 : Below w.heap.size w (w.alloc (.cells (av l).toArray 138)) := (Below.refl _ _).alloc (Nat.le_refl _) _
  generalize hw1 : w.alloc (.cells (av l).toArray 138) = w1 at *
  have HB0 := hid hb0
  clear hb0 hw1
  go_loopw [3, 9] (fun b i wr => ∃ k : Nat, k ≤ 15 ∧ i = .int .i64 k ∧ (∃ A c, b = .slice A (off k) c ∧ off k ≤ c ∧ wr.ownsRow w.heap.size 5 1 (.slice A (off k) c) (off k) (bvs (fl l k))) ∧ Below w.heap.size w wr) (fun _ i _ => 15 - (intOf i).toNat)
  case atStart => exact ⟨0, by omega, rfl, ⟨none, 0, rfl, Nat.le_refl _, World.ownsRow_nil _ _ _ _⟩, HB0.out⟩
  case round =>
    obtain ⟨k, hk, rfl, ⟨A, c, rfl, hc, hown⟩, hbe⟩ := hrel
    have HBe := hid hbe
    have hsz := hbe.size
    have HO := hid hown
    have hoff := off_le k hk
    by_cases hlt : k < 15
    · have hkl : k < l.length := by rw [HL.out]; exact hlt
      have hix := fun W => run_index_arr (P := Tryd.prog) W 138 26 15 (av l).toArray .i64 k _ .u64 Tryd.underlying138 Tryd.underlying26 (by kernel_rfl) hlt (by simpa using av_get l k hkl)
      have hcz := (HF.out.below hbe HF.out.1).size hlt
      have hsz1 := sz_lo k hlt
      have hfl := fl_len l k
      have HP : Hid (Calls Tryd.prog 94 #[.slice A (off k) c, .int .u64 ((l[k] : Nat) : Int), .int .i64 (sz k : Int)] wr
          fun e w' => ∃ A c, e = .returned (.tuple #[.slice A (off (k + 1)) c, .int .i64 0]) ∧ w'.ownsRow wr.heap.size 5 1 (.slice A (off (k + 1)) c) (off (k + 1)) (bvs (fl l (k + 1))) ∧ Below wr.heap.size wr w') := hid (by
        obtain ⟨A', c', hv, hc', hlen, hrd⟩ := own_shape hown
        cases hv
        have h := put_fit A (fl l k) c l[k] (sz k) wr.heap.size wr hrd hsz1 (fits_lt HFit.out k hkl) (Nat.le_refl _) (by rw [hfl]; omega)
        rw [hfl] at h
        have e1 : fl l (k + 1) = fl l k ++ le l[k] (sz k) := by simp [fl, hkl]
        rw [e1]
        exact h)
      generalize l[k] = x at hix HP
      generalize hs : sz k = s at hcz HP hsz1
      clear hown hbe hs
      go_wp2_with (go_at_call 94; refine HP.out.mono ?_; rintro e w2 ⟨A2, c2, rfl, hown2, hb2⟩)
      exact ⟨⟨k + 1, by omega, by go_num, ⟨A2, c2, rfl, (own_shape hown2).elim fun _ ⟨_, e, hc2, _⟩ => by cases e; exact hc2, own_base hown2 hsz⟩, HBe.out.trans (hb2.mono hsz)⟩, by simp [intOf]; omega⟩
    · obtain rfl : k = 15 := by omega
      rw [off_15] at hown hc
      have hR := restS_len l
      have hrest : bvs (fl l 15) ++ List.replicate 40 (.int .u8 0) = bvs (restS l) := by rw [bvs_zero, ← bvs_app, restS]
      have HS := hid (fun W => sum_of9 (restS l) (by omega) W)
      have HP := hid (fun W => put_sum0 (addS 0#32 (restS l)) W)
      have hfin : headB l = le (addS 0#32 (restS l)).toNat 4 ++ restS l := rfl
      generalize restS l = R at *
      generalize addS 0#32 R = x at *
      have HH := hid hrest
      have HR := hid hR
      have HFN := hid hfin
      have hcat : ¬ (9223372036854775807 < (le x.toNat 4).length + R.length) := by rw [le_len, hR]; omega
      have HL4 := hid (le_len 4 x.toNat)
      clear hrest hR hfin HFit HO hbe
      rw [off_15]
      go_wp2_with (first
        | (with_reducible refine wpl_append_zeros rfl _ _ 96 3 rfl w.heap.size 5 i0 .i64 Tryd.underlying96 Tryd.underlying3 hi hz0 hz1 hz2 (.slice A 84 c) 84 _ rfl hown _ 40 rfl ?_ ?_ ?_ ?_ ?_; intro v2 w2 hown2 hb2 hg2; rw [HH.out] at hown2; obtain ⟨A2, c2, rfl, -, -, hrd2⟩ := own_shape hown2)
        | (with_reducible refine wpl_str rfl _ 96 9 rfl 5 Tryd.underlying96 Tryd.underlying5 Tryd.underlying9 A2 124 c2 rfl w2.heap.size R ?_ (hid hrd2) (hid HR.out.symm))
        | (go_at_call 90; refine (HS.out _).mono ?_; rintro e w3 ⟨rfl, hb3⟩)
        | (go_at_call 94; refine (HP.out _).mono ?_; rintro e w4 ⟨A4, c4, rfl, hrd4, hb4⟩)
        | (with_reducible refine wpl_str rfl _ 96 9 rfl 5 Tryd.underlying96 Tryd.underlying5 Tryd.underlying9 A4 4 c4 rfl w4.heap.size (le x.toNat 4) ?_ (hid hrd4) (hid HL4.out.symm))
        | (with_reducible refine wpl_str rfl _ 96 9 rfl 5 Tryd.underlying96 Tryd.underlying5 Tryd.underlying9 A2 124 c2 rfl w2.heap.size R ?_ (hid ((hrd2.below hb3 (Nat.le_refl _)).below hb4 hb3.size)) (hid HR.out.symm)))
      · go_ret
        refine ⟨by rw [HFN.out, cat_mk]; rfl, ?_⟩
        have s2 := hb2.size
        have s3 := hb3.size
        exact ((HBe.out.trans hb2).trans (hb3.mono (by omega))).trans (hb4.mono (by omega))
      · exact hid rfl
      · exact hid (by omega)
      · exact hid (by omega)
      · exact hid hsz
end Go.Proofs.YtneacphibklbgaaDoor
/-
  The walk of package head's take.
-/
namespace Go.Proofs.YtneacphibklbgaaDoor
open Go.RowKit
set_option maxRecDepth 10000

/-- the numbers of the first k places, noughts behind them -/
def tkw (s : List UInt8) (k : Nat) : List Nat := (List.range k).map (tk s) ++ List.replicate (15 - k) 0
theorem tkw_len (s : List UInt8) (k : Nat) (h : k ≤ 15) : (tkw s k).length = 15 := by simp [tkw]; omega
theorem tkw_end (s : List UInt8) : tkw s 15 = takeN s := by simp [tkw, takeN]
theorem tkw_zero (s : List UInt8) : tkw s 0 = List.replicate 15 0 := by simp [tkw]
theorem tkw_set (s : List UInt8) (k : Nat) (h : k < 15) : (tkw s k).set k (tk s k) = tkw s (k + 1) := by
  have h1 : ((List.range k).map (tk s)).length = k := by simp
  unfold tkw
  rw [List.set_append_right _ _ (by rw [h1]; omega), h1, Nat.sub_self, show 15 - k = (15 - (k + 1)) + 1 by omega, List.replicate_succ, List.set_cons_zero, List.range_succ, List.map_append, List.append_assoc]
  rfl
theorem takeN_len (s : List UInt8) : (takeN s).length = 15 := by simp [takeN]
theorem off_more : ∀ k, k < 15 → off k + sz k ≤ 84 := by decide
theorem take_at (A : Option Addr) (bs : List UInt8) (c k B : Nat) (W : World) (hr : Rd W B A (bvs bs)) (hl : bs.length = 128) (hc : 128 ≤ c) (hk : k < 15) (hB : B ≤ W.heap.size) :
    Calls Tryd.prog 85 #[.slice A 128 c, .int .i64 ((4 + off k : Nat) : Int), .int .i64 (sz k : Int)] W
    fun e w' => e = .returned (.tuple #[.int .u64 ((tk bs k : Nat) : Int), .int .i64 0]) ∧ Below W.heap.size W w' := by
  have h := take_any A bs 128 c B ((4 + off k : Nat) : Int) (sz k) W hr hl.symm (by omega) hc hB
  have h1 := sz_lo k hk
  have h2 := off_more k hk
  have e : takeS bs ((4 + off k : Nat) : Int) (sz k) = (tk bs k, 0) := by
    unfold takeS
    rw [if_neg (by omega), if_neg (by omega)]
    rfl
  rw [e] at h
  exact h
set_option maxHeartbeats 1000000 in
theorem takeh_any (s : ByteArray) (h : s.size = 128) (w : World) (hf : Fd w) : Calls Tryd.prog 97 #[.string s] w (VE w (.agg (av (takeN (sb s))).toArray)) := by
  have HF := hid hf
  have HS := hid (sb_len s)
  have HZ := hid h
  have HT : Hid ((av (takeN (sb s))).toArray.size = 15) := hid (by simp [av, takeN])
  clear hf h
  go_enter Tryd.func97, Tryd.ntmps97
  go_wp2_with (with_reducible refine wpl_bytes rfl _ _ _ rfl 5 Tryd.underlying9 Tryd.underlying96 Tryd.underlying5 s rfl ?_; intro g c k0 w1 HG HC HR HB; rw [HZ.out])
  have hg : g = w.heap.size + 2 := by have := HG.out; simpa using this
  subst hg
  have hbe : Below w.heap.size w w1 := (((Below.refl _ _).alloc (Nat.le_refl _) _).alloc (by simp) _).trans (HB.mono (by simp; omega))
  have hr0 : Row w1 w.heap.size 138 (av (List.replicate 15 0)) := ((Row.new w 138 (av (List.replicate 15 0)).toArray).alloc _).below HB (by simp; omega)
  have hr1 : Row w1 (w.heap.size + 1) 138 (av (tkw (sb s) 0)) := by
    rw [tkw_zero]
    exact Row.below (B := w.heap.size + 2) (w := (w.alloc _).alloc _) (alloc2_new _ _ _) (HB.mono (by simp)) (by omega)
  have hsz1 := HR.lt
  clear HB HG
  have HE := hid hbe
  have H0 := hid hr0
  have H1 := hid hr1
  have HRD := hid HR
  clear hbe hr0 hr1 HR
  go_loopw [5, 9] (fun a i wr => ∃ k p : Nat, k ≤ 15 ∧ i = .int .i64 k ∧ a = .int .i64 (p : Int) ∧ Hid (p = 4 + off k) ∧ Row wr w.heap.size 138 (av (List.replicate 15 0)) ∧ Row wr (w.heap.size + 1) 138 (av (tkw (sb s) k)) ∧ FRow wr (w.heap.size + 2) 5 (bvs (sb s) ++ List.replicate k0 (.int .u8 0)) ∧ w.heap.size + 2 < wr.heap.size ∧ Below w.heap.size w wr) (fun _ i _ => 15 - (intOf i).toNat)
  case atStart => exact ⟨0, 4, by omega, rfl, rfl, hid rfl, H0.out, H1.out, HRD.out, hsz1, HE.out⟩
  case round =>
    obtain ⟨k, p, hk, rfl, rfl, hp, h0, h1, hfr, hsz, hbe⟩ := hrel
    have HE := hid hbe
    have H0 := hid h0
    have hrd : Rd wr (w.heap.size + 3) (some ⟨w.heap.size + 2, 0, none⟩) (bvs (sb s)) := by
      have := (hfr.rd (B := w.heap.size + 3) (by omega)).take (bvs (sb s)).length
      rwa [List.take_left] at this
    have HRD := hid hfr
    have hoff := off_le k hk
    by_cases hlt : k < 15
    · have hf := HF.out.below hbe HF.out.1
      have hcz := hf.size hlt
      have hsz1 := sz_lo k hlt
      have hP := (take_at _ (sb s) c k (w.heap.size + 3) wr hrd (by rw [HS.out, HZ.out]) (by rw [← HZ.out]; exact HC.out) hlt (by omega))
      rw [← hp.out] at hP
      have hst := fun (W : World) (hR : Row W (w.heap.size + 1) 138 (av (tkw (sb s) k))) => hR.set_ k (.int .u64 ((tk (sb s) k : Nat) : Int))
      have hcell : wr.cell? ⟨w.heap.size + 1, k, none⟩ = some (.int .u64 (((tkw (sb s) k)[k]'(by rw [tkw_len _ _ hk]; exact hlt) : Nat) : Int)) := by
        rw [h1.cell]
        exact av_get _ k (by rw [tkw_len _ _ hk]; exact hlt)
      have HP := hid hP
      have hp88 : p ≤ 88 := by rw [hp.out]; omega
      have H1 := hid h1
      clear hbe h0 h1 hrd hf hst hP hfr
      have HF2 := hid (fun (W : World) (hb : Below wr.heap.size wr W) => (HF.out.below HE.out HF.out.1).below hb (by omega))
      have HK : Hid (∀ W : World, Below wr.heap.size wr W → W.cell? ⟨w.heap.size + 1, k, none⟩ = some (.int .u64 (((tkw (sb s) k)[k]'(by rw [tkw_len _ _ hk]; exact hlt) : Nat) : Int)) ∧ W.frozen? ⟨w.heap.size + 1, k, none⟩ = false ∧ W.cell? ⟨0, k * 2, none⟩ = some (.int .i64 (sz k : Nat)) ∧
          Row (W.setCell ⟨w.heap.size + 1, k, none⟩ (.int .u64 ((tk (sb s) k : Nat) : Int))) (w.heap.size + 1) 138 (av (tkw (sb s) (k + 1)))) := hid fun W hb => by
        have h1 := H1.out.below hb (by omega)
        refine ⟨?_, h1.frozen _, (HF2.out W hb).size hlt, ?_⟩
        · rw [h1.cell]
          exact av_get _ k (by rw [tkw_len _ _ hk]; exact hlt)
        · have := h1.set_ k (.int .u64 ((tk (sb s) k : Nat) : Int))
          rw [av_set, tkw_set _ _ hlt] at this
          exact this
      have hn : Hid (p + sz k = 4 + off (k + 1)) := hid (by rw [hp.out, off]; omega)
      generalize (tkw (sb s) k)[k]'(by rw [tkw_len _ _ hk]; exact hlt) = y at hcell HK
      generalize tk (sb s) k = x at HP HK
      generalize sz k = z at *
      have h0k : ¬ (0 = w.heap.size + 1) := by omega
      go_wp2_with (go_at_call 85; refine HP.out.mono ?_; rintro e w2 ⟨rfl, hb2⟩; obtain ⟨q1, q2, q3, q4⟩ := HK.out w2 hb2; have Q4 := hid q4; clear q4)
      have hsz2 := hb2.size
      refine ⟨⟨k + 1, p + z, by omega, by go_num, by go_num, hn, (H0.out.below hb2 (by omega)).far (by simp) _, Q4.out, (HRD.out.below hb2 (by omega)).far (by simp) _, by simp; omega, (HE.out.trans (hb2.mono (by omega))).setCell (by simp) _⟩, by simp [intOf]; omega⟩
    · obtain rfl : k = 15 := by omega
      rw [tkw_end] at h1
      have H1 := hid h1
      clear h0 h1 hfr hrd hbe
      go_wp2_with (first
        | (refine wpList_load_row rfl 138 (.tmp 3) rfl (w.heap.size + 1) rfl 138 (av (takeN (sb s))).toArray (0, 0) _ H1.out Tryd.underlying138 rfl (by rw [HT.out]; kernel_rfl) ?_)
        | (refine wpList_store_row rfl 138 (.tmp 2) (.tmp 31) rfl w.heap.size (av (takeN (sb s))).toArray rfl rfl 138 (av (List.replicate 15 0)).toArray H0.out (by rw [HT.out]; kernel_rfl) (by rw [HT.out]; simp [av]) ?_ ?_))
      · rw [Array.all_eq_true']
        intro u hu
        exact av_one _ u (by simpa using hu)
      · have hg := setRow_heap wr w.heap.size _ (av (takeN (sb s))).toArray 138 (0, 0) H0.out
        exact bodyPost_ret (v := .agg (av (takeN (sb s))).toArray) (results_cell_row rfl _ _ w.heap.size 138 (av (takeN (sb s))).toArray (0, 0) _ rfl hg Tryd.underlying138 rfl (by rw [HT.out]; kernel_rfl)) rfl
          ⟨rfl, HE.out.trans (below_grown (grownBy_setRow wr w.heap.size _) (Nat.le_refl _) (by omega))⟩
end Go.Proofs.YtneacphibklbgaaDoor
/-
  The walk of package head's Pack.
-/
namespace Go.Proofs.YtneacphibklbgaaDoor
open Go.RowKit
set_option maxRecDepth 10000

theorem full_fits (h : Hd) (body : List UInt8) (hf : Fits h.nums) (hb : body.length ≤ 3968) : Fits (full h body) := by
  refine ⟨full_len h body, fun k hk => ?_⟩
  have hk15 : k < 15 := by rw [← full_len h body]; exact hk
  simp only [full, List.getElem_set]
  split
  · rename_i e5
    subst e5
    show body.length ≤ 4294967295
    omega
  · split
    · rename_i e0
      subst e0
      have : (addS 0#32 body).toNat < 4294967296 := (addS 0#32 body).isLt
      show _ ≤ 4294967295
      omega
    · exact hf.2 k (by rw [nums_len]; exact hk15)
theorem cat_sb (a : List UInt8) (s : ByteArray) : (⟨a.toArray⟩ : ByteArray) ++ s = ⟨(a ++ sb s).toArray⟩ := by
  apply ByteArray.ext
  simp [sb]
theorem sum_str (s : ByteArray) (h : s.size ≤ 1000000) (W : World) : Calls Tryd.prog 90 #[.string s] W fun e w' => e = .returned (.int .u32 ((addS 0#32 (sb s)).toNat : Int)) ∧ Below W.heap.size W w' := sum_calls s W (by omega)
theorem setRow_row (w : World) (z : Array Value) (cs : List Value) : Row ((w.alloc (.cells z 138)).setRow w.heap.size cs.toArray) w.heap.size 138 cs := setRow_heap _ w.heap.size z cs.toArray 138 (0, 0) (heap_alloc_new _ _)
theorem setRow_below (w : World) (z : Array Value) (cs : List Value) : Below w.heap.size w ((w.alloc (.cells z 138)).setRow w.heap.size cs.toArray) :=
  ((Below.refl _ _).alloc (Nat.le_refl _) _).trans (below_grown (grownBy_setRow _ w.heap.size _) (Nat.le_refl _) (by simp))
set_option maxHeartbeats 1000000 in
theorem pack_form (h : Hd) (body : ByteArray) (w : World) (hf : Fd w) (hno : ¬ Fits h.nums) : Calls Tryd.prog 73 #[h.val, .string body] w (SN w ([], 4)) := by
  have HR : Hid (∀ W, Fd W → Calls Tryd.prog 88 #[h.val] W (VE W (.bool false))) := hid fun W hW => by
    have := right_any h W hW
    rwa [decide_eq_false hno] at this
  have HF := hid hf
  clear hno hf
  obtain ⟨kind, frm, oper, view, opn, commit, client, session, request, a, b, parent⟩ := h
  have HR2 : Hid (∀ W : World, Fd W → Calls Tryd.prog 88 #[.agg #[.int .i64 kind, .int .i64 frm, .int .i64 oper, .int .i64 view, .int .i64 opn, .int .i64 commit, .int .i64 client, .int .i64 session, .int .i64 request, .int .i64 a, .int .i64 b, .int .u64 (parent : Int)]] W (VE W (.bool false))) := hid HR.out
  show Calls Tryd.prog 73 #[.agg #[.int .i64 kind, .int .i64 frm, .int .i64 oper, .int .i64 view, .int .i64 opn, .int .i64 commit, .int .i64 client, .int .i64 session, .int .i64 request, .int .i64 a, .int .i64 b, .int .u64 (parent : Int)], .string body] w _
  have hb0 : Below w.heap.size w (w.alloc (.cells #[.int .i64 kind, .int .i64 frm, .int .i64 oper, .int .i64 view, .int .i64 opn, .int .i64 commit, .int .i64 client, .int .i64 session, .int .i64 request, .int .i64 a, .int .i64 b, .int .u64 (parent : Int)] 119)) := (Below.refl _ _).alloc (Nat.le_refl _) _
  have HB := hid hb0
  clear hb0 HR
  go_enter Tryd.func73, Tryd.ntmps73
  go_wp2_with (go_at_call 88; refine (HR2.out _ (HF.out.below HB.out HF.out.1)).mono ?_; rintro e w1 ⟨rfl, hb1⟩)
  go_ret2
  exact ⟨rfl, HB.out.trans (hb1.mono HB.out.size)⟩
set_option maxHeartbeats 1000000 in
theorem pack_long (h : Hd) (body : ByteArray) (w : World) (hf : Fd w) (hyes : Fits h.nums) (hlong : 3968 < (body.size : Int)) : Calls Tryd.prog 73 #[h.val, .string body] w (SN w ([], 5)) := by
  have HR : Hid (∀ W, Fd W → Calls Tryd.prog 88 #[h.val] W (VE W (.bool true))) := hid fun W hW => by
    have := right_any h W hW
    rwa [decide_eq_true hyes] at this
  have HF := hid hf
  clear hyes hf
  obtain ⟨kind, frm, oper, view, opn, commit, client, session, request, a, b, parent⟩ := h
  have HR2 : Hid (∀ W : World, Fd W → Calls Tryd.prog 88 #[.agg #[.int .i64 kind, .int .i64 frm, .int .i64 oper, .int .i64 view, .int .i64 opn, .int .i64 commit, .int .i64 client, .int .i64 session, .int .i64 request, .int .i64 a, .int .i64 b, .int .u64 (parent : Int)]] W (VE W (.bool true))) := hid HR.out
  show Calls Tryd.prog 73 #[.agg #[.int .i64 kind, .int .i64 frm, .int .i64 oper, .int .i64 view, .int .i64 opn, .int .i64 commit, .int .i64 client, .int .i64 session, .int .i64 request, .int .i64 a, .int .i64 b, .int .u64 (parent : Int)], .string body] w _
  have hb0 : Below w.heap.size w (w.alloc (.cells #[.int .i64 kind, .int .i64 frm, .int .i64 oper, .int .i64 view, .int .i64 opn, .int .i64 commit, .int .i64 client, .int .i64 session, .int .i64 request, .int .i64 a, .int .i64 b, .int .u64 (parent : Int)] 119)) := (Below.refl _ _).alloc (Nat.le_refl _) _
  have HB := hid hb0
  clear hb0 HR
  go_enter Tryd.func73, Tryd.ntmps73
  go_wp2_with (go_at_call 88; refine (HR2.out _ (HF.out.below HB.out HF.out.1)).mono ?_; rintro e w1 ⟨rfl, hb1⟩)
  go_ret2
  exact ⟨rfl, HB.out.trans (hb1.mono HB.out.size)⟩
set_option maxHeartbeats 1000000 in
theorem pack_ok (h : Hd) (body : ByteArray) (w : World) (hf : Fd w) (hyes : Fits h.nums) (hroom : body.size ≤ 3968) : Calls Tryd.prog 73 #[h.val, .string body] w (SN w (headB (full h (sb body)) ++ sb body, 0)) := by
  have HR : Hid (∀ W, Fd W → Calls Tryd.prog 88 #[h.val] W (VE W (.bool true))) := hid fun W hW => by
    have := right_any h W hW
    rwa [decide_eq_true hyes] at this
  have HF := hid hf
  have hsl := sb_len body
  have hff := full_fits h (sb body) hyes (by omega)
  have HLY := hid (fun W hW => layh_any (full h (sb body)) hff W hW)
  have HN := hid (fun W => numbers_any h W)
  have HS := hid (fun W => sum_str body (by omega) W)
  have hnl := nums_len h
  have hBl := headB_len (full h (sb body))
  have hroomI : ¬ (3968 < (body.size : Int)) := by omega
  clear hyes hf hff
  have hfull : full h (sb body) = (h.nums.set 0 (addS 0#32 (sb body)).toNat).set 5 body.size := by rw [full, hsl]
  rw [hfull] at HLY ⊢
  have hset0 : ∀ x, (av h.nums).set 0 (.int .u64 (x : Nat)) = av (h.nums.set 0 x) := fun x => av_set _ _ _
  generalize addS 0#32 (sb body) = x at *
  have hx : x.toNat < 4294967296 := x.isLt
  have hset5 : ∀ l : List Nat, (av l).set 5 (.int .u64 ((body.size : Nat) : Int)) = av (l.set 5 body.size) := fun l => av_set _ _ _
  have HA : Hid ((av h.nums).toArray.size = 15) := hid (by simp [av, hnl])
  have HA2 : Hid ((av ((h.nums.set 0 x.toNat).set 5 body.size)).toArray.size = 15) := hid (by simp [av, hnl])
  have hone : Hid (∀ u ∈ av h.nums, u.oneCell' = true) := hid (av_one _)
  have HROW : Hid (∀ (W : World) (g : Nat), Row W g 138 (av h.nums) → ∃ y z : Nat, W.cell? ⟨g, 0, none⟩ = some (.int .u64 (y : Int)) ∧ W.frozen? ⟨g, 0, none⟩ = false ∧ (W.setCell ⟨g, 0, none⟩ (.int .u64 (x.toNat : Int))).cell? ⟨g, 5, none⟩ = some (.int .u64 (z : Int)) ∧ (W.setCell ⟨g, 0, none⟩ (.int .u64 (x.toNat : Int))).frozen? ⟨g, 5, none⟩ = false ∧ Row ((W.setCell ⟨g, 0, none⟩ (.int .u64 (x.toNat : Int)))) g 138 (av (h.nums.set 0 x.toNat)) ∧ Row ((W.setCell ⟨g, 0, none⟩ (.int .u64 (x.toNat : Int))).setCell ⟨g, 5, none⟩ (.int .u64 ((body.size : Nat) : Int))) g 138 (av ((h.nums.set 0 x.toNat).set 5 body.size))) := hid fun W g hr => by
    have h1 := hr.set_ 0 (.int .u64 (x.toNat : Int))
    rw [av_set] at h1
    have h2 := h1.set_ 5 (.int .u64 ((body.size : Nat) : Int))
    rw [av_set] at h2
    exact ⟨_, _, (hr.cell 0).trans (av_get _ 0 (by rw [hnl]; omega)), hr.frozen _, (h1.cell 5).trans (av_get _ 5 (by simp [hnl])), h1.frozen _, h1, h2⟩
  have hcat : ¬ (9223372036854775807 < (headB ((h.nums.set 0 x.toNat).set 5 body.size)).length + body.size) := by rw [headB_len]; omega
  obtain ⟨kind, frm, oper, view, opn, commit, client, session, request, a, b, parent⟩ := h
  have HR2 : Hid (∀ W : World, Fd W → Calls Tryd.prog 88 #[.agg #[.int .i64 kind, .int .i64 frm, .int .i64 oper, .int .i64 view, .int .i64 opn, .int .i64 commit, .int .i64 client, .int .i64 session, .int .i64 request, .int .i64 a, .int .i64 b, .int .u64 (parent : Int)]] W (VE W (.bool true))) := hid HR.out
  have HN2 : Hid (∀ W : World, Calls Tryd.prog 89 #[.agg #[.int .i64 kind, .int .i64 frm, .int .i64 oper, .int .i64 view, .int .i64 opn, .int .i64 commit, .int .i64 client, .int .i64 session, .int .i64 request, .int .i64 a, .int .i64 b, .int .u64 (parent : Int)]] W (VE W (.agg (av (Hd.nums ⟨kind, frm, oper, view, opn, commit, client, session, request, a, b, parent⟩)).toArray))) := hid HN.out
  show Calls Tryd.prog 73 #[.agg #[.int .i64 kind, .int .i64 frm, .int .i64 oper, .int .i64 view, .int .i64 opn, .int .i64 commit, .int .i64 client, .int .i64 session, .int .i64 request, .int .i64 a, .int .i64 b, .int .u64 (parent : Int)], .string body] w _
  generalize Hd.nums ⟨kind, frm, oper, view, opn, commit, client, session, request, a, b, parent⟩ = L at *
  have hb0 : Below w.heap.size w (w.alloc (.cells #[.int .i64 kind, .int .i64 frm, .int .i64 oper, .int .i64 view, .int .i64 opn, .int .i64 commit, .int .i64 client, .int .i64 session, .int .i64 request, .int .i64 a, .int .i64 b, .int .u64 (parent : Int)] 119)) := (Below.refl _ _).alloc (Nat.le_refl _) _
  have hl0 := Row.new w 119 #[.int .i64 kind, .int .i64 frm, .int .i64 oper, .int .i64 view, .int .i64 opn, .int .i64 commit, .int .i64 client, .int .i64 session, .int .i64 request, .int .i64 a, .int .i64 b, .int .u64 (parent : Int)]
  have hs0 : w.heap.size < (w.alloc (.cells #[.int .i64 kind, .int .i64 frm, .int .i64 oper, .int .i64 view, .int .i64 opn, .int .i64 commit, .int .i64 client, .int .i64 session, .int .i64 request, .int .i64 a, .int .i64 b, .int .u64 (parent : Int)] 119)).heap.size := by simp
  have HB := hid hb0
  have HS0 := hid hs0
  have HL0 := hid hl0
  have hcells : Hid (∀ W : World, Row W w.heap.size 119 (Hd.cells ⟨kind, frm, oper, view, opn, commit, client, session, request, a, b, parent⟩).toList → ∀ i u, (Hd.cells ⟨kind, frm, oper, view, opn, commit, client, session, request, a, b, parent⟩)[i]? = some u → W.cell? ⟨w.heap.size, i, none⟩ = some u) := hid fun W hr i u hu => by
    rw [hr.cell, Array.getElem?_toList]
    exact hu
  clear hb0 hl0 hs0 HR HN hset0 hset5 hnl hBl hfull hsl
  go_enter Tryd.func73, Tryd.ntmps73
  go_wp2_with (first
    | (go_at_call 88; refine (HR2.out _ (HF.out.below HB.out HF.out.1)).mono ?_; rintro e w1 ⟨rfl, hb1⟩;
        have hc := hcells.out w1 (HL0.out.below hb1 HS0.out); have q0 := hc 0 (.int .i64 kind) rfl; have q1 := hc 1 (.int .i64 frm) rfl; have q2 := hc 2 (.int .i64 oper) rfl; have q3 := hc 3 (.int .i64 view) rfl; have q4 := hc 4 (.int .i64 opn) rfl; have q5 := hc 5 (.int .i64 commit) rfl; have q6 := hc 6 (.int .i64 client) rfl; have q7 := hc 7 (.int .i64 session) rfl; have q8 := hc 8 (.int .i64 request) rfl; have q9 := hc 9 (.int .i64 a) rfl; have q10 := hc 10 (.int .i64 b) rfl; have q11 := hc 11 (.int .u64 (parent : Int)) rfl; clear hc)
    | (go_at_call 89; refine (HN2.out _).mono ?_; rintro e w2 ⟨rfl, hb2⟩)
    | (refine wpList_store_row rfl 138 (.tmp 6) (.tmp 14) rfl w2.heap.size (av L).toArray rfl rfl 138 #[.int .u64 0, .int .u64 0, .int .u64 0, .int .u64 0, .int .u64 0, .int .u64 0, .int .u64 0, .int .u64 0, .int .u64 0, .int .u64 0, .int .u64 0, .int .u64 0, .int .u64 0, .int .u64 0, .int .u64 0] (heap_alloc_new _ _) (by rw [HA.out]; kernel_rfl) (by rw [HA.out]; rfl) (by rw [Array.all_eq_true']; intro u hu; exact hone.out u (by simpa using hu)) ?_;
        have hr3 := setRow_row w2 #[.int .u64 0, .int .u64 0, .int .u64 0, .int .u64 0, .int .u64 0, .int .u64 0, .int .u64 0, .int .u64 0, .int .u64 0, .int .u64 0, .int .u64 0, .int .u64 0, .int .u64 0, .int .u64 0, .int .u64 0] (av L); generalize hw3 : (w2.alloc (.cells #[.int .u64 0, .int .u64 0, .int .u64 0, .int .u64 0, .int .u64 0, .int .u64 0, .int .u64 0, .int .u64 0, .int .u64 0, .int .u64 0, .int .u64 0, .int .u64 0, .int .u64 0, .int .u64 0, .int .u64 0] 138)).setRow w2.heap.size (av L).toArray = w3 at hr3 ⊢; have hb3 : Below w2.heap.size w2 w3 := (by rw [← hw3]; exact setRow_below w2 #[.int .u64 0, .int .u64 0, .int .u64 0, .int .u64 0, .int .u64 0, .int .u64 0, .int .u64 0, .int .u64 0, .int .u64 0, .int .u64 0, .int .u64 0, .int .u64 0, .int .u64 0, .int .u64 0, .int .u64 0] (av L));
        have hs3 := hr3.lt; have HR3 := hid hr3; clear hr3 hw3)
    | (go_at_call 90; refine (HS.out _).mono ?_; rintro e w4 ⟨rfl, hb4⟩; obtain ⟨y, z, q12, q13, q14, q15, q16, q17⟩ := HROW.out w4 w2.heap.size (HR3.out.below hb4 hs3); have HR4 := hid q16; have HR5 := hid q17; clear q16 q17;
        have hbA := ((((HB.out.trans (hb1.mono HB.out.size)).trans (hb2.mono (Nat.le_trans HB.out.size hb1.size))).trans (hb3.mono (Nat.le_trans HB.out.size (Nat.le_trans hb1.size hb2.size)))).trans (hb4.mono (Nat.le_trans HB.out.size (Nat.le_trans hb1.size (Nat.le_trans hb2.size hb3.size)))));
        have HBA := hid ((hbA.setCell (p := ⟨w2.heap.size, 0, none⟩) (Nat.le_trans HB.out.size (Nat.le_trans hb1.size hb2.size)) (.int .u64 (x.toNat : Int))).setCell (p := ⟨w2.heap.size, 5, none⟩) (Nat.le_trans HB.out.size (Nat.le_trans hb1.size hb2.size)) (.int .u64 ((body.size : Nat) : Int))); clear hbA)
    | (refine wpList_load_row rfl 138 (.tmp 6) rfl w2.heap.size rfl 138 (av ((L.set 0 x.toNat).set 5 body.size)).toArray (0, 0) _ HR5.out Tryd.underlying138 rfl (by rw [HA2.out]; kernel_rfl) ?_)
    | (go_at_call 91; refine (HLY.out _ (HF.out.below HBA.out HF.out.1)).mono ?_; rintro e w6 ⟨rfl, hb6⟩))
  go_ret2
  exact ⟨by rw [cat_sb]; rfl, HBA.out.trans (hb6.mono HBA.out.size)⟩
theorem pack_any (h : Hd) (body : ByteArray) (w : World) (hf : Fd w) : Calls Tryd.prog 73 #[h.val, .string body] w (SN w (packS h (sb body))) := by
  unfold packS
  have hl := sb_len body
  by_cases hfit : Fits h.nums
  · rw [if_neg (by simpa using hfit)]
    by_cases hlong : 3968 < (sb body).length
    · rw [if_pos hlong]
      exact pack_long h body w hf hfit (by omega)
    · rw [if_neg hlong]
      exact pack_ok h body w hf hfit (by omega)
  · rw [if_pos hfit]
    exact pack_form h body w hf hfit
end Go.Proofs.YtneacphibklbgaaDoor
/-
  The walk of the document's Right.
-/
namespace Go.Proofs.YtneacphibklbgaaDoor
open Go.RowKit
set_option maxRecDepth 10000

def sm (n : Int) : Bool := decide (0 ≤ n ∧ n ≤ 255)
def ft (n : Int) : Bool := decide (0 ≤ n ∧ n ≤ 72057594037927935)
def rightS (h : Hd) : Bool := sm h.kind && sm h.frm && sm h.oper && ft h.view && ft h.opn && ft h.commit && ft h.client && ft h.session && ft h.request && ft h.a && ft h.b
end Go.Proofs.YtneacphibklbgaaDoor
/-
  Plain words on headers: which may be, what is packed and read again, what was turned, cut or grown is found.
-/
namespace Go.Proofs.YtneacphibklbgaaDoor
open Go.RowKit

/-! ### which headers may be -/
theorem fits_iff (h : Hd) (hp : h.parent < 18446744073709551616) : Fits h.nums ↔ (un h.kind ≤ 255 ∧ un h.frm ≤ 255 ∧ un h.oper ≤ 255) ∧ (un h.view ≤ 72057594037927935 ∧ un h.opn ≤ 72057594037927935 ∧ un h.commit ≤ 72057594037927935 ∧ un h.client ≤ 72057594037927935) ∧
    (un h.session ≤ 72057594037927935 ∧ un h.request ≤ 72057594037927935 ∧ un h.a ≤ 72057594037927935 ∧ un h.b ≤ 72057594037927935) := by
  constructor
  · rintro ⟨_, hf⟩
    have hl := nums_len h
    exact ⟨⟨hf 1 (by omega), hf 2 (by omega), hf 3 (by omega)⟩, ⟨hf 7 (by omega), hf 8 (by omega), hf 9 (by omega), hf 10 (by omega)⟩, hf 11 (by omega), hf 12 (by omega), hf 13 (by omega), hf 14 (by omega)⟩
  · rintro ⟨⟨h1, h2, h3⟩, ⟨h7, h8, h9, h10⟩, h11, h12, h13, h14⟩
    refine ⟨rfl, fun k hk => ?_⟩
    match k, hk with
    | 0, _ => exact Nat.zero_le _
    | 1, _ => exact h1
    | 2, _ => exact h2
    | 3, _ => exact h3
    | 4, _ => exact Nat.zero_le _
    | 5, _ => exact Nat.zero_le _
    | 6, _ => exact Nat.le_of_lt_succ hp
    | 7, _ => exact h7
    | 8, _ => exact h8
    | 9, _ => exact h9
    | 10, _ => exact h10
    | 11, _ => exact h11
    | 12, _ => exact h12
    | 13, _ => exact h13
    | 14, _ => exact h14
    | k + 15, hk => exact absurd hk (by rw [nums_len]; omega)
theorem un_small {x : Int} (hx : In64 x) : un x ≤ 255 ↔ 0 ≤ x ∧ x ≤ 255 := by
  have h := un_eq x
  have h0 := un_lt x
  unfold In64 at hx
  omega
theorem un_fits {x : Int} (hx : In64 x) : un x ≤ 72057594037927935 ↔ 0 ≤ x ∧ x ≤ 72057594037927935 := by
  have h := un_eq x
  have h0 := un_lt x
  unfold In64 at hx
  omega
theorem right_fits (h : Hd) (hh : h.fits) : rightS h = decide (Fits h.nums) := by
  obtain ⟨⟨a1, a2, a3, a4, a5, a6⟩, ⟨b1, b2, b3, b4, b5⟩, hp⟩ := hh
  unfold rightS sm ft
  rw [Bool.eq_iff_iff, decide_eq_true_iff, fits_iff h hp, un_small a1, un_small a2, un_small a3, un_fits a4, un_fits a5, un_fits a6, un_fits b1, un_fits b2, un_fits b3, un_fits b4, un_fits b5]
  simp only [Bool.and_eq_true, decide_eq_true_eq]
  constructor
  · rintro ⟨⟨⟨⟨⟨⟨⟨⟨⟨⟨c1, c2⟩, c3⟩, c4⟩, c5⟩, c6⟩, c7⟩, c8⟩, c9⟩, c10⟩, c11⟩
    exact ⟨⟨c1, c2, c3⟩, ⟨c4, c5, c6, c7⟩, c8, c9, c10, c11⟩
  · rintro ⟨⟨c1, c2, c3⟩, ⟨c4, c5, c6, c7⟩, c8, c9, c10, c11⟩
    exact ⟨⟨⟨⟨⟨⟨⟨⟨⟨⟨c1, c2⟩, c3⟩, c4⟩, c5⟩, c6⟩, c7⟩, c8⟩, c9⟩, c10⟩, c11⟩
/-! ### the bytes of one place -/
theorem fl_part (l : List Nat) : ∀ m k, k < m → ∃ t, fl l m = fl l k ++ (le (l.getD k 0) (sz k) ++ t)
  | 0, _, h => by omega
  | m + 1, k, h => by
    by_cases e : k = m
    · subst e
      exact ⟨[], by simp [fl]⟩
    · obtain ⟨t, ht⟩ := fl_part l m k (by omega)
      exact ⟨t ++ le (l.getD m 0) (sz m), by rw [fl, ht]; simp⟩
theorem place (l : List Nat) (body : List UInt8) (k : Nat) (hk : k < 15) : ((headB l ++ body).drop (4 + off k)).take (sz k) = le (l.getD k 0) (sz k) := by
  obtain ⟨t, ht⟩ := fl_part l 15 k hk
  have h4 := sumS_len (restS l)
  have hf := fl_len l k
  have e : headB l ++ body = (sumS (restS l) ++ fl l k) ++ (le (l.getD k 0) (sz k) ++ (t ++ List.replicate 40 0 ++ body)) := by
    have e1 : restS l = fl l k ++ (le (l.getD k 0) (sz k) ++ (t ++ List.replicate 40 0)) := by
      rw [restS, ht]
      simp only [List.append_assoc]
    unfold headB
    rw [show sumS (restS l) ++ restS l = sumS (restS l) ++ (fl l k ++ (le (l.getD k 0) (sz k) ++ (t ++ List.replicate 40 0))) from congrArg (fun z => sumS (restS l) ++ z) e1]
    simp only [List.append_assoc]
  have hl : (sumS (restS l) ++ fl l k).length = 4 + off k := by rw [List.length_append, h4, hf]
  rw [e, ← hl, List.drop_left, List.take_append_of_le_length (by rw [le_len]; exact Nat.le_refl _), List.take_of_length_le (by rw [le_len]; exact Nat.le_refl _)]
theorem tk_head (l : List Nat) (hf : Fits l) (k : Nat) (hk : k < 15) : tk (headB l) k = l.getD k 0 := by
  have h := place l [] k hk
  rw [List.append_nil] at h
  have hkl : k < l.length := by rw [hf.1]; exact hk
  unfold tk
  rw [h]
  refine leV_le _ _ (Nat.div_eq_of_lt (Nat.lt_of_le_of_lt ?_ (mo_lt k hk)))
  have := hf.2 k hkl
  simpa [hkl] using this
theorem takeN_head (l : List Nat) (hf : Fits l) : takeN (headB l) = l := by
  apply List.ext_getElem
  · rw [hf.1]; simp [takeN]
  · intro k h1 h2
    have hk : k < 15 := by rw [← hf.1]; exact h2
    have := tk_head l hf k hk
    simp only [takeN, List.getElem_map, List.getElem_range, this]
    simp [h2]
theorem sg_un {x : Int} (hx : In64 x) : sg (un x) = x := by
  have h := un_eq x
  unfold In64 at hx
  unfold sg wrap64
  omega
theorem hdOf_full (h : Hd) (body : List UInt8) (hh : h.fits) : hdOf (full h body) = h := by
  obtain ⟨⟨a1, a2, a3, a4, a5, a6⟩, ⟨b1, b2, b3, b4, b5⟩, hp⟩ := hh
  obtain ⟨kind, frm, oper, view, opn, commit, client, session, request, a, b, parent⟩ := h
  show (⟨sg (un kind), sg (un frm), sg (un oper), sg (un view), sg (un opn), sg (un commit), sg (un client), sg (un session), sg (un request), sg (un a), sg (un b), parent⟩ : Hd) = _
  rw [sg_un a1, sg_un a2, sg_un a3, sg_un a4, sg_un a5, sg_un a6, sg_un b1, sg_un b2, sg_un b3, sg_un b4, sg_un b5]
/-! ### packed and read again -/
/-- what is packed is so -/
theorem packS_ok {h : Hd} {body s : List UInt8} (e : packS h body = (s, 0)) : Fits h.nums ∧ body.length ≤ 3968 ∧ s = headB (full h body) ++ body := by
  unfold packS at e
  split at e
  · simp at e
  · rename_i hf
    split at e
    · simp at e
    · rename_i hl
      exact ⟨by simpa using hf, by omega, (Prod.mk.inj e).1.symm⟩
theorem packS_yes {h : Hd} {body : List UInt8} (hf : Fits h.nums) (hl : body.length ≤ 3968) : packS h body = (headB (full h body) ++ body, 0) := by
  unfold packS
  rw [if_neg (by simpa using hf), if_neg (by omega)]
theorem unpack_pack {h : Hd} {body s : List UInt8} (hh : h.fits) (e : packS h body = (s, 0)) : unpackS s = (h, body, 0) := by
  obtain ⟨hf, hl, rfl⟩ := packS_ok e
  have h128 := headB_len (full h body)
  have e1 : (headB (full h body) ++ body).take 128 = headB (full h body) := by rw [← h128, List.take_left]
  have e2 : (headB (full h body) ++ body).drop 128 = body := by rw [← h128, List.drop_left]
  have hff := full_fits h body hf hl
  unfold unpackS
  rw [if_neg (by rw [List.length_append, h128]; omega), e1, e2, takeN_head _ hff, hdOf_full h body hh, if_pos e]
/-! ### turned, cut, grown -/
end Go.Proofs.YtneacphibklbgaaDoor
