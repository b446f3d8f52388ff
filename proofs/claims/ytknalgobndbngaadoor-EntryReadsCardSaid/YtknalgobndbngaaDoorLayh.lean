/-
  The walk of package head's lay.
-/
import Derived.Test.YtknalgobndbngaaDoorHnum
namespace Go.Proofs.YtknalgobndbngaaDoor
open Go.RowKit
set_option maxRecDepth 10000

/-- a text -/
def SE (w : World) (r : List UInt8) (e : Ending) (w' : World) : Prop := e = .returned (.string ⟨r.toArray⟩) ∧ Below w.heap.size w w'

theorem cat_mk (a b : List UInt8) : (⟨a.toArray⟩ : ByteArray) ++ ⟨b.toArray⟩ = ⟨(a ++ b).toArray⟩ := by
  apply ByteArray.ext
  simp

theorem own_base {w : World} {B B' e size n : Nat} {v : Value} {xs : List Value} (h : w.ownsRow B e size v n xs) (hB : B' ≤ B) : w.ownsRow B' e size v n xs := by
  obtain ⟨h1, h2⟩ := h
  refine ⟨h1, ?_⟩
  rcases h2 with h2 | ⟨g, cap, cur, e1, a, b⟩
  · exact .inl h2
  · exact .inr ⟨g, cap, cur, e1, by omega, b⟩
theorem bvs_zero (n : Nat) : List.replicate n (Value.int .u8 0) = bvs (List.replicate n 0) := by simp [bvs, bv]

theorem BE.len {w w' : World} {r : List UInt8} {e : Ending} {n : Nat} {x : Int} (h : BE w (r, x) e w') (hn : r.length = n) :
    ∃ A c, e = .returned (.tuple #[.slice A n c, .int .i64 x]) ∧ w'.ownsRow w.heap.size 5 1 (.slice A n c) n (bvs r) ∧ Below w.heap.size w w' := by
  subst hn
  exact h

/-- Put of a number that fits -/
theorem put_fit (A : Option Addr) (bs : List UInt8) (c n s B : Nat) (W : World) (hr : Rd W B A (bvs bs)) (hs : 1 ≤ s ∧ s ≤ 8) (hn : n < 2 ^ (8 * s)) (hB : B ≤ W.heap.size) (hl : bs.length ≤ 140737488351232) :
    Calls Tryd.prog 44 #[.slice A bs.length c, .int .u64 (n : Int), .int .i64 (s : Int)] W
    fun e w' => ∃ A c, e = .returned (.tuple #[.slice A (bs.length + s) c, .int .i64 0]) ∧ w'.ownsRow W.heap.size 5 1 (.slice A (bs.length + s) c) (bs.length + s) (bvs (bs ++ le n s)) ∧ Below W.heap.size W w' := by
  have h := put_any A bs bs.length c n B s W hr rfl hB hl
  have e : putS bs n s = (bs ++ le n s, 0) := by
    unfold putS
    rw [if_pos ⟨by omega, by omega, Nat.div_eq_of_lt (by simpa using hn)⟩]
    simp
  rw [e] at h
  refine h.mono fun e w' hh => BE.len hh (by simp [le_len])

theorem sum_of (b : List UInt8) (hb : b.length ≤ 1000000) (W : World) : Calls Tryd.prog 33 #[.string ⟨b.toArray⟩] W fun e w' => e = .returned (.int .u32 ((addS 0#32 b).toNat : Int)) ∧ Below W.heap.size W w' := by
  have h := sum_calls ⟨b.toArray⟩ W (by rw [← sb_len, sb_mk]; omega)
  rw [sb_mk] at h
  exact h

theorem put_sum0 (x : BitVec 32) (W : World) : Calls Tryd.prog 44 #[.slice none 0 0, .int .u64 (x.toNat : Int), .int .i64 4] W
    fun e w' => ∃ A c, e = .returned (.tuple #[.slice A 4 c, .int .i64 0]) ∧ Rd w' w'.heap.size A (bvs (le x.toNat 4)) ∧ Below W.heap.size W w' := by
  have h := put_fit none [] 0 x.toNat 4 0 W Rd.nil (by omega) x.isLt (by omega) (by simp)
  refine h.mono fun e w' ⟨A, c, e1, ho, hb⟩ => ⟨A, c, e1, ?_, hb⟩
  obtain ⟨A', c', e2, _, _, hrd⟩ := own_shape ho
  cases e2
  exact hrd

theorem fits_lt {l : List Nat} (h : Fits l) (k : Nat) (hk : k < l.length) : l[k] < 2 ^ (8 * sz k) := Nat.lt_of_le_of_lt (h.2 k hk) (mo_lt k (by rw [← h.1]; exact hk))

set_option maxHeartbeats 1000000 in
theorem layh_any (l : List Nat) (hfit : Fits l) (w : World) (hf : Fd w) : Calls Tryd.prog 34 #[.agg (av l).toArray] w (SE w (headB l)) := by
  obtain ⟨i0, hi, hz0, hz1, hz2⟩ := info_parts u8info
  have HF := hid hf
  have HFit := hid hfit
  have HL := hid hfit.1
  have HA : Hid ((av l).toArray.size = 15) := hid (by simp [av, hfit.1])
  clear hf hfit
  go_enter Tryd.func34, Tryd.ntmps34
  go_wp2_with (refine wpList_load_row rfl 53 (.tmp 1) rfl w.heap.size rfl 53 (av l).toArray (0, 0) _ (heap_alloc_new _ _) Tryd.underlying53 rfl (by rw [HA.out]; kernel_rfl) ?_)
  have hb0 : Below w.heap.size w (w.alloc (.cells (av l).toArray 53)) := (Below.refl _ _).alloc (Nat.le_refl _) _
  generalize hw1 : w.alloc (.cells (av l).toArray 53) = w1 at *
  have HB0 := hid hb0
  clear hb0 hw1
  go_loopw [3, 9] (fun b i wr => ∃ k : Nat, k ≤ 15 ∧ i = .int .i64 k ∧ (∃ A c, b = .slice A (off k) c ∧ off k ≤ c ∧ wr.ownsRow w.heap.size 5 1 (.slice A (off k) c) (off k) (bvs (fl l k))) ∧ Below w.heap.size w wr) (fun _ i _ => 15 - (intOf i).toNat)
  case atStart => exact ⟨0, by omega, rfl, ⟨none, 0, rfl, Nat.le_refl _, World.ownsRow_nil _ _ _ _⟩, HB0.out⟩
  case round =>
    obtain ⟨k, hk, rfl, ⟨A, c, rfl, hc, hown⟩, hbe⟩ := hrel
    have HBe := hid hbe
    have hsz := hbe.size
    have HO := hid hown
    have hoff := off_le k hk
    by_cases hlt : k < 15
    · have hkl : k < l.length := by rw [HL.out]; exact hlt
      have hix := fun W => run_index_arr (P := Tryd.prog) W 53 22 15 (av l).toArray .i64 k _ .u64 Tryd.underlying53 Tryd.underlying22 (by kernel_rfl) hlt (by simpa using av_get l k hkl)
      have hcz := (HF.out.below hbe HF.out.1).size hlt
      have hsz1 := sz_lo k hlt
      have hfl := fl_len l k
      have HP : Hid (Calls Tryd.prog 44 #[.slice A (off k) c, .int .u64 ((l[k] : Nat) : Int), .int .i64 (sz k : Int)] wr
          fun e w' => ∃ A c, e = .returned (.tuple #[.slice A (off (k + 1)) c, .int .i64 0]) ∧ w'.ownsRow wr.heap.size 5 1 (.slice A (off (k + 1)) c) (off (k + 1)) (bvs (fl l (k + 1))) ∧ Below wr.heap.size wr w') := hid (by
        obtain ⟨A', c', hv, hc', hlen, hrd⟩ := own_shape hown
        cases hv
        have h := put_fit A (fl l k) c l[k] (sz k) wr.heap.size wr hrd hsz1 (fits_lt HFit.out k hkl) (Nat.le_refl _) (by rw [hfl]; omega)
        rw [hfl] at h
        have e1 : fl l (k + 1) = fl l k ++ le l[k] (sz k) := by simp [fl, hkl]
        rw [e1]
        exact h)
      generalize l[k] = x at hix HP
      generalize hs : sz k = s at hcz HP hsz1
      clear hown hbe hs
      go_wp2_with (go_at_call 44; refine HP.out.mono ?_; rintro e w2 ⟨A2, c2, rfl, hown2, hb2⟩)
      exact ⟨⟨k + 1, by omega, by go_num, ⟨A2, c2, rfl, (own_shape hown2).elim fun _ ⟨_, e, hc2, _⟩ => by cases e; exact hc2, own_base hown2 hsz⟩, HBe.out.trans (hb2.mono hsz)⟩, by simp [intOf]; omega⟩
    · obtain rfl : k = 15 := by omega
      rw [off_15] at hown hc
      have hR := restS_len l
      have hrest : bvs (fl l 15) ++ List.replicate 40 (.int .u8 0) = bvs (restS l) := by rw [bvs_zero, ← bvs_app, restS]
      have HS := hid (fun W => sum_of (restS l) (by omega) W)
      have HP := hid (fun W => put_sum0 (addS 0#32 (restS l)) W)
      have hfin : headB l = le (addS 0#32 (restS l)).toNat 4 ++ restS l := rfl
      generalize restS l = R at *
      generalize addS 0#32 R = x at *
      have HH := hid hrest
      have HR := hid hR
      have HFN := hid hfin
      have hcat : ¬ (9223372036854775807 < (le x.toNat 4).length + R.length) := by rw [le_len, hR]; omega
      have HL4 := hid (le_len 4 x.toNat)
      clear hrest hR hfin HFit HO hbe
      rw [off_15]
      go_wp2_with (first
        | (with_reducible refine wpl_append_zeros rfl _ _ 34 3 rfl w.heap.size 5 i0 .i64 Tryd.underlying34 Tryd.underlying3 hi hz0 hz1 hz2 (.slice A 84 c) 84 _ rfl hown _ 40 rfl ?_ ?_ ?_ ?_ ?_; intro v2 w2 hown2 hb2 hg2; rw [HH.out] at hown2; obtain ⟨A2, c2, rfl, -, -, hrd2⟩ := own_shape hown2)
        | (with_reducible refine wpl_str rfl _ 34 9 rfl 5 Tryd.underlying34 Tryd.underlying5 Tryd.underlying9 A2 124 c2 rfl w2.heap.size R ?_ (hid hrd2) (hid HR.out.symm))
        | (go_at_call 33; refine (HS.out _).mono ?_; rintro e w3 ⟨rfl, hb3⟩)
        | (go_at_call 44; refine (HP.out _).mono ?_; rintro e w4 ⟨A4, c4, rfl, hrd4, hb4⟩)
        | (with_reducible refine wpl_str rfl _ 34 9 rfl 5 Tryd.underlying34 Tryd.underlying5 Tryd.underlying9 A4 4 c4 rfl w4.heap.size (le x.toNat 4) ?_ (hid hrd4) (hid HL4.out.symm))
        | (with_reducible refine wpl_str rfl _ 34 9 rfl 5 Tryd.underlying34 Tryd.underlying5 Tryd.underlying9 A2 124 c2 rfl w2.heap.size R ?_ (hid ((hrd2.below hb3 (Nat.le_refl _)).below hb4 hb3.size)) (hid HR.out.symm)))
      · go_ret
        refine ⟨by rw [HFN.out, cat_mk]; rfl, ?_⟩
        have s2 := hb2.size
        have s3 := hb3.size
        exact ((HBe.out.trans hb2).trans (hb3.mono (by omega))).trans (hb4.mono (by omega))
      · exact hid rfl
      · exact hid (by omega)
      · exact hid (by omega)
      · exact hid hsz
end Go.Proofs.YtknalgobndbngaaDoor
