/-
  The walks of package num's inner functions.
-/
import Derived.Test.YtknalgobndbngaaDoorRows
import Derived.Test.YtknalgobndbngaaDoorPre
namespace Go.Proofs.YtknalgobndbngaaDoor
open Go.RowKit

/-- the size lowest bytes of n, the lowest first -/
def le : Nat → Nat → List UInt8
  | _, 0 => []
  | n, k + 1 => UInt8.ofNat n :: le (n / 256) k
theorem le_len : ∀ k n, (le n k).length = k
  | 0, _ => rfl
  | k + 1, n => by simp [le, le_len k]
theorem le_get : ∀ (k n j : Nat), j < k → (le n k)[j]? = some (UInt8.ofNat (n / 2 ^ (8 * j)))
  | 0, _, _, h => by omega
  | k + 1, n, 0, _ => by simp [le]
  | k + 1, n, j + 1, h => by
    rw [le, List.getElem?_cons_succ, le_get k _ j (by omega), Nat.div_div_eq_div_mul]
    congr 3
    rw [show 8 * (j + 1) = 8 + 8 * j by omega, Nat.pow_add]
theorem bv_ofNat (m : Nat) : bv (UInt8.ofNat m) = .int .u8 ((m : Int) % 256) := by
  simp [bv]

def lw (n k : Nat) : List Value := bvs (le n k) ++ List.replicate (8 - k) (.int .u8 0)
theorem lw_len (n k : Nat) (h : k ≤ 8) : (lw n k).length = 8 := by simp [lw, bvs, le_len]; omega
theorem lw_at (n k : Nat) (h : k < 8) : (lw n k)[k]? = some (.int .u8 0) := by
  have h1 : (bvs (le n k)).length = k := by simp [bvs, le_len]
  rw [lw, List.getElem?_append_right (by omega), h1]
  simp [show 0 < 8 - k by omega]
theorem lw_set (n k : Nat) (h : k < 8) : (lw n k).set k (.int .u8 ((n : Int) / 2 ^ (8 * k) % 256)) = lw n (k + 1) := by
  have h1 : ∀ m, (bvs (le n m)).length = m := fun m => by simp [bvs, le_len]
  apply List.ext_getElem?
  intro j
  by_cases hj : j = k
  · subst hj
    rw [List.getElem?_set_self (by rw [lw_len n j (by omega)]; omega)]
    rw [lw, List.getElem?_append_left (by rw [h1]; omega), bvs, List.getElem?_map, le_get _ _ _ (by omega)]
    simp only [Option.map_some, bv_ofNat]
    simp
  · rw [List.getElem?_set_ne (by omega)]
    by_cases hlt : j < k
    · rw [lw, lw, List.getElem?_append_left (by rw [h1]; omega), List.getElem?_append_left (by rw [h1]; omega), bvs, bvs, List.getElem?_map, List.getElem?_map, le_get _ _ _ hlt, le_get _ _ _ (by omega)]
    · rw [lw, lw, List.getElem?_append_right (by rw [h1]; omega), List.getElem?_append_right (by rw [h1]; omega), h1, h1]
      simp [List.getElem?_replicate]
      by_cases h8 : j < 8
      · rw [if_pos (by omega), if_pos (by omega)]
      · rw [if_neg (by omega), if_neg (by omega)]
theorem lw_zero (n : Nat) : lw n 0 = List.replicate 8 (.int .u8 0) := by simp [lw, le, bvs]
theorem lw_take (n k : Nat) (h : k ≤ 8) : (lw n 8).take k = bvs (le n k) := by
  apply List.ext_getElem?
  intro j
  have h1 : ∀ m, (bvs (le n m)).length = m := fun m => by simp [bvs, le_len]
  rw [List.getElem?_take]
  by_cases hj : j < k
  · rw [if_pos hj, lw, List.getElem?_append_left (by rw [h1]; omega), bvs, bvs, List.getElem?_map, List.getElem?_map, le_get _ _ _ hj, le_get _ _ _ (by omega)]
  · rw [if_neg hj, List.getElem?_eq_none (by rw [h1]; omega)]

theorem u8info : (Tryd.prog.info? 5).map (fun i => (i.zero, i.size, i.bytes)) = some (some (.int .u8 0), 1, 1) := by kernel_rfl

theorem splice_two {α : Type} (Z X Y : List α) (hz : Z.length = X.length + Y.length) : splice (splice Z 0 X) X.length Y = X ++ Y := by
  simp [splice]
  omega

set_option maxRecDepth 10000 in
set_option maxHeartbeats 400000 in
theorem lay_any (A : Option Addr) (bs : List UInt8) (l c n size B : Nat) (w : World) (hr : Rd w B A (bvs bs)) (hl : l = bs.length) (h0 : size ≤ 8) (hB : B ≤ w.heap.size) (hl2 : l ≤ 140737488351232) :
    Calls Tryd.prog 53 #[.slice A l c, .int .u64 n, .int .i64 size] w fun e w' => ∃ g, e = .returned (.slice (some ⟨g, 0, none⟩) (l + size) (l + size)) ∧
      w.heap.size ≤ g ∧ Row w' g 5 (bvs (bs ++ le n size)) ∧ Below w.heap.size w w' := by
  obtain ⟨i0, hi, hz0, hz1, hz2⟩ := info_parts u8info
  have HL : Hid (l = bs.length) := hl
  clear hl
  go_enter Tryd.func53, Tryd.ntmps53
  go_wp2_with fail
  go_loopw [8, 10] (fun _ i wr => ∃ k : Nat, k ≤ 8 ∧ i = .int .i64 k ∧ Row wr w.heap.size 79 (lw n k) ∧ Below w.heap.size w wr) (fun _ i _ => 8 - (intOf i).toNat)
  case atStart => exact ⟨0, by omega, rfl, by rw [lw_zero]; exact Row.new _ _ _, (Below.refl _ _).alloc (Nat.le_refl _) _⟩
  case round =>
    obtain ⟨k, hk, rfl, hb, hbe⟩ := hrel
    by_cases hlt : k < 8
    · have hc := (hb.cell k).trans (lw_at n k hlt)
      have hf := hb.frozen k
      have hst := hb.set_ k (.int .u8 ((n : Int) / 2 ^ (8 * k) % 256))
      rw [lw_set n k hlt] at hst
      have HS := hid hst
      clear hst hb
      go_wp2_with fail
      go_roundw
      case rel => exact ⟨k + 1, by omega, by go_num, HS.out, hbe.setCell (Nat.le_refl _) _⟩
      case measure => simp [intOf]; omega
    · have HB := hid hb
      have hbsz : w.heap.size < wr.heap.size := hb.lt
      have HBe := hid hbe
      clear hb hbe
      obtain rfl : k = 8 := by omega
      go_wp2_with (first
        | (with_reducible refine wpl_make rfl _ _ _ rfl 5 i0 _ Tryd.underlying34 hi hz0 hz1 rfl _ _ _ _ (l + size) rfl rfl ?_ ?_ ?_ ?_ ?_; intro g w1 HG HR1 HB1)
        | (with_reducible refine wpl_copy rfl _ _ _ _ rfl 5 Tryd.underlying34 rfl (some ⟨g, 0, none⟩) A (l + size) (l + size) l c rfl rfl g 0 _ 5 HR1 B (bvs bs) ?_ ?_ ?_ ?_ ?_ ?_; intro w2 HR2 HB2))
      rotate_left
      · exact hid ((hr.below HBe.out hB).below HB1 (by have := HG.out; omega))
      · exact hid (by rw [bvs_len, ← HL.out]; simp)
      · exact hid trivial
      · exact hid (by rw [bvs_len, ← HL.out]; simp)
      · exact hid (bvs_one bs)
      · exact hid (by omega)
      · exact hid (by omega)
      · exact hid (by rw [hz2]; omega)
      · exact hid (by simp only [maxLen]; omega)
      have hle : (l : Int) ≤ (l : Int) + size := by omega
      have hle8 : (size : Int) ≤ 8 := by omega
      have RW : Row w2 w.heap.size 79 (lw n 8) := ((HB.out.below HB1 (by have := HG.out; omega))).grown HB2 (by have := HG.out; simp; omega)
      have f1 : Hid (Rd w2.drew w2.heap.size (some ⟨w.heap.size, 0, none⟩) (bvs (le n size))) := hid (by rw [← lw_take n size h0]; exact (RW.rd RW.lt).take size)
      have f2 : Hid ((bvs (le n size)).length = Nat.min size size) := hid (by rw [bvs_len, le_len]; simp)
      have f3 : Hid (0 < (bvs (le n size)).length → (if size = 0 then some (⟨g, 0, none⟩ : Addr) else some ⟨g, l, none⟩) = some ⟨g, l, none⟩) := hid (fun h => by rw [bvs_len, le_len] at h; rw [if_neg (by omega)])
      have f4 : Hid (l + (bvs (le n size)).length ≤ (splice (List.replicate (l + size) (Value.int .u8 0)) 0 (bvs bs)).length) := hid (by rw [length_splice _ _ _ (by rw [bvs_len, ← HL.out]; simp), bvs_len, le_len]; simp)
      have f5 := hid (bvs_one (le n size))
      have HR3 : Row w2.drew g 5 (splice (List.replicate (l + size) (Value.int .u8 0)) 0 (bvs bs)) := HR2
      go_region_law (refine step_of_wpo rfl (wpo_copy (.tmp 32) (.tmp 34) 34 34 rfl 5 Tryd.underlying34 rfl (if size = 0 then some ⟨g, 0, none⟩ else some ⟨g, l, none⟩) (some ⟨w.heap.size, 0, none⟩) size size size 8 (by simp [Act.eval, Act.put]) (by simp [Act.eval, Act.put]) g l _ 5 HR3 _ _ (fun w3 HR4 HB3 => ?_) f1 f2 f3 f4 f5))
      have hfin : ∀ s, s = size → Row w3 g 5 (bvs (bs ++ le n s)) := by
        rintro s rfl
        have h := splice_two (List.replicate (l + s) (Value.int .u8 0)) (bvs bs) (bvs (le n s)) (by simp [bvs_len, le_len, HL.out])
        rw [bvs_len, ← HL.out] at h
        rw [h, ← bvs_app] at HR4
        exact HR4
      have HF := hid hfin
      clear hfin
      go_wp2_with fail
      all_goals
        go_ret
        have h0 := HG.out
        exact ⟨g, rfl, by omega, HF.out _ (by omega), ((HBe.out.trans (HB1.mono (by omega))).trans (below_grown HB2 (by omega) (by have := HR1.lt; omega))).drew.trans (below_grown HB3 (by omega) (by have := HR3.lt; omega))⟩
end Go.Proofs.YtknalgobndbngaaDoor
