/-
  The walks of the document's answers: Bytes, Put, Same.
-/
import Derived.Test.YtknalgobndbngaaDoorPut
namespace Go.Proofs.YtknalgobndbngaaDoor
open Go.RowKit
set_option maxRecDepth 10000

set_option maxHeartbeats 400000 in
theorem rbytes_any (A : Option Addr) (bs : List UInt8) (l c B : Nat) (w : World) (hr : Rd w B A (bvs bs)) (hl : l = bs.length) (hB : B ≤ w.heap.size) (hl2 : l ≤ 140737488355328) :
    Calls Tryd.prog 54 #[.slice A l c] w fun e w' => ∃ g, e = .returned (.slice (some ⟨g, 0, none⟩) l l) ∧
      Hid (g = w.heap.size) ∧ Row w' g 5 (bvs bs) ∧ Below w.heap.size w w' := by
  obtain ⟨i0, hi, hz0, hz1, hz2⟩ := info_parts u8info
  have HL := hid hl
  clear hl
  go_enter Tryd.func54, Tryd.ntmps54
  go_wp2_with (first
    | (with_reducible refine wpl_make rfl _ _ _ rfl 5 i0 _ Tryd.underlying34 hi hz0 hz1 rfl _ _ _ _ l rfl rfl ?_ ?_ ?_ ?_ ?_; intro g w1 HG HR1 HB1)
    | (with_reducible refine wpl_copy rfl _ _ _ _ rfl 5 Tryd.underlying34 rfl (some ⟨g, 0, none⟩) A l l l c rfl rfl g 0 _ 5 HR1 B (bvs bs) ?_ ?_ ?_ ?_ ?_ ?_; intro w2 HR2 HB2))
  rotate_left
  · exact hid (hr.below HB1 (by have := HG.out; omega))
  · exact hid (by rw [bvs_len, ← HL.out]; simp)
  · exact hid trivial
  · exact hid (by rw [bvs_len, ← HL.out]; simp)
  · exact hid (bvs_one bs)
  · exact hid trivial
  · exact hid trivial
  · exact hid (by rw [hz2]; omega)
  · exact hid (by simp only [maxLen]; omega)
  go_ret
  have h0 := HG.out
  have h1 : splice (List.replicate l (Value.int .u8 0)) 0 (bvs bs) = bvs bs := by
    simp [splice, bvs_len, HL.out]
  rw [h1] at HR2
  exact ⟨g, rfl, HG, HR2, (HB1.mono (by omega)).trans (below_grown HB2 (by omega) (by have := HR1.lt; omega))⟩

set_option maxHeartbeats 400000 in
theorem rput_no (A : Option Addr) (l c n : Nat) (size : Int) (w : World) (h : ¬ (1 ≤ size ∧ size ≤ 8)) :
    Calls Tryd.prog 47 #[.slice A l c, .int .u64 n, .int .i64 size] w (BE w ([], 1)) := by
  by_cases h1 : 1 ≤ size
  · have h2 : 8 < size := by omega
    clear h
    go_enter Tryd.func47, Tryd.ntmps47
    go_wp2_with fail
    go_ret2
    exact ⟨none, 0, rfl, World.ownsRow_nil _ _ _ _, Below.refl _ _⟩
  · have h2 : size < 1 := by omega
    clear h
    go_enter Tryd.func47, Tryd.ntmps47
    go_wp2_with fail
    go_ret2
    exact ⟨none, 0, rfl, World.ownsRow_nil _ _ _ _, Below.refl _ _⟩

theorem BE_own {w w' : World} {v : Value} {bs : List UInt8} {n : Nat} (hn : n = bs.length) (h : w'.ownsRow w.heap.size 5 1 v n (bvs bs)) (hb : Below w.heap.size w w') :
    BE w (bs, 0) (.returned (.tuple #[v, .int .i64 0])) w' := by
  subst hn
  obtain ⟨A, c, rfl, _⟩ := own_shape h
  exact ⟨A, c, rfl, h, hb⟩

theorem le_snoc : ∀ (k n : Nat), le n (k + 1) = le n k ++ [UInt8.ofNat (n / 2 ^ (8 * k))]
  | 0, n => by simp [le]
  | k + 1, n => by
    rw [le, le_snoc k, le]
    simp only [List.cons_append, List.cons.injEq, true_and, List.append_cancel_left_eq, and_true]
    rw [Nat.div_div_eq_div_mul, show 8 * (k + 1) = 8 + 8 * k by omega, Nat.pow_add]

set_option maxHeartbeats 400000 in
theorem rput_yes (A : Option Addr) (bs : List UInt8) (l c n s B : Nat) (w : World) (hr : Rd w B A (bvs bs)) (hl : l = bs.length) (h0 : 1 ≤ s) (h8 : s ≤ 8) (hB : B ≤ w.heap.size) (hl2 : l ≤ 140737488351232) (hn : Hid (n < 18446744073709551616)) :
    Calls Tryd.prog 47 #[.slice A l c, .int .u64 n, .int .i64 s] w (BE w (putS bs n s)) := by
  obtain ⟨i0, hi, hz0, hz1, hz2⟩ := info_parts u8info
  have H1 := hid hl
  clear hl
  go_enter Tryd.func47, Tryd.ntmps47
  go_wp2_with (go_at_call 54; refine (rbytes_any A bs l c B _ hr H1.out hB (by omega)).mono ?_; rintro e w1 ⟨g, rfl, hg, hrow, hbe⟩)
  go_loopw [1, 8, 9] (fun x out i wr => ∃ (k m : Nat) , k ≤ s ∧ i = .int .i64 k ∧ x = .int .u64 m ∧ Hid (m = n / 2 ^ (8 * k)) ∧ wr.ownsRow w.heap.size 5 1 out (l + k) (bvs (bs ++ le n k)) ∧ Below w.heap.size w wr) (fun _ _ i _ => s - (intOf i).toNat)
  case atStart =>
    refine ⟨0, n, by omega, rfl, rfl, hid (by simp), ?_, hbe⟩
    have h := hrow.own (B := w.heap.size) (by have := hg.out; omega) (by rw [bvs_len, ← H1.out]; simp only [maxLen]; omega)
    rw [bvs_len, ← H1.out] at h
    simpa [le] using h
  case round =>
    obtain ⟨k, m, hk, rfl, rfl, hm, hown, hbe'⟩ := hrel
    have hsz := hbe'.size
    by_cases hlt : k < s
    · go_wp2_with (with_reducible refine wpl_append rfl (.tmp 23) (.tmp 27) 34 rfl w.heap.size 5 i0 _ 1 1 Tryd.underlying34 hi hz0 hz1 hz2 rfl (by omega) u8 (l + k) _ rfl (hown.alloc _) (wr.heap.size + 1) (some ⟨wr.heap.size, 0, none⟩) 1 1 [.int .u8 ((m : Int) % 256)] rfl ?_ ?_ ?_ ?_ ?_ ?_ ?_; intro v' w2 hown2 hb2 hg2)
      rotate_left
      · refine hid fun _ => ⟨_, _, rfl, by omega, ?_⟩
        intro j u hu
        match j, hu with
        | 0, hu => simp at hu; subst hu; simp
      · exact hid rfl
      · exact hid (by intro u hu; simp at hu; subst hu; rfl)
      · exact hid (by simp only [maxLen]; omega)
      · exact hid (by omega)
      · exact hid (by simp; omega)
      have e1 : ((m : Int) / 256) = ((m / 256 : Nat) : Int) := by simp
      go_roundw
      case rel =>
        refine ⟨k + 1, m / 256, by omega, by go_num, ?_, hid ?_, ?_, ?_⟩
        · rw [← e1]
          congr 1
          exact IntWalk.u64_in _ ⟨by omega, by have := hm.out; have := Nat.div_le_self n (2 ^ (8 * k)); have := hn.out; omega⟩
        · rw [hm.out, Nat.div_div_eq_div_mul, show 8 * (k + 1) = 8 * k + 8 by omega, Nat.pow_add]
        · rw [le_snoc, ← hm.out, ← List.append_assoc, bvs_app (bs ++ le n k)]
          have : bvs [UInt8.ofNat m] = [.int .u8 ((m : Int) % 256)] := by simp [bvs, bv_ofNat]
          rw [this]
          exact hown2
        · exact (hbe'.alloc hsz _).trans hb2
      case measure => simp [intOf]; omega
    · obtain rfl : k = s := by omega
      have HM := hm
      by_cases hz : m = 0
      · have hfin : putS bs n k = (bs ++ le n k, 0) := by
          unfold putS
          rw [if_pos ⟨by omega, by omega, by simpa using hm.out.symm.trans hz⟩]
          simp
        have HF := hid hfin
        clear hfin
        go_wp2_with fail
        go_ret2
        rw [HF.out]
        exact BE_own (by simp [le_len, H1.out]) hown hbe'
      · have hfin : putS bs n k = ([], 1) := by
          unfold putS
          rw [if_neg (fun h => hz (hm.out.trans (by simpa using h.2.2)))]
        have HF := hid hfin
        clear hfin
        go_wp2_with fail
        go_ret2
        rw [HF.out]
        exact ⟨none, 0, rfl, World.ownsRow_nil _ _ _ _, hbe'⟩

theorem rput_any (A : Option Addr) (bs : List UInt8) (l c n B : Nat) (size : Int) (w : World) (hr : Rd w B A (bvs bs)) (hl : l = bs.length) (hB : B ≤ w.heap.size) (hl2 : l ≤ 140737488351232) (hn : Hid (n < 18446744073709551616)) :
    Calls Tryd.prog 47 #[.slice A l c, .int .u64 n, .int .i64 size] w (BE w (putS bs n size)) := by
  by_cases h : 1 ≤ size ∧ size ≤ 8
  · obtain ⟨s, rfl⟩ := Int.eq_ofNat_of_zero_le (show 0 ≤ size by omega)
    exact rput_yes A bs l c n s B w hr hl (by omega) (by omega) hB hl2 hn
  · have e : putS bs n size = ([], 1) := by
      unfold putS
      rw [if_neg (fun h3 => h ⟨h3.1, h3.2.1⟩)]
    rw [e]
    exact rput_no A l c n size w h
end Go.Proofs.YtknalgobndbngaaDoor
