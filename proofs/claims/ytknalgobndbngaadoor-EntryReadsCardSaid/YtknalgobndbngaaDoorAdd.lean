/-
  The walks of Add and Sum, and of the answers held against them.
-/
import Derived.Test.YtknalgobndbngaaDoorSt
import Derived.Test.YtknalgobndbngaaDoorPreb
namespace Go.Proofs.YtknalgobndbngaaDoor
open Go.RowKit
set_option maxRecDepth 10000

/-- what Add answers -/
def addS (x : BitVec 32) (l : List UInt8) : BitVec 32 := ~~~ byAll (~~~x) l

set_option maxRecDepth 100000 in
set_option maxHeartbeats 400000 in
theorem add_calls (x : BitVec 32) (s : ByteArray) (w : World) (hs : s.size ≤ 1125899906842624) :
    Calls Tryd.prog 43 #[.int .u32 (x.toNat : Int), .string s] w fun e w' => e = .returned (.int .u32 ((addS x (sb s)).toNat : Int)) ∧ Below w.heap.size w w' := by
  have hz := zero256
  have HT : Hid ((tab 256).toArray.size = 256) := hid (by simpa using tab_len 256 (by omega))
  have HZ : Hid (z256.size = 256) := hid (by rfl)
  have hsg : IntKind.u32.signed = false := rfl
  have hmx : IntKind.u32.max = 4294967295 := rfl
  go_enter Tryd.func43, Tryd.ntmps43
  go_wp2_with (first
    | (go_at_call 51; refine (table_calls _).mono ?_; rintro e w1 ⟨rfl, hb1⟩)
    | (refine wpList_store_row rfl 74 (.tmp 5) (.tmp 9) rfl w1.heap.size (tab 256).toArray rfl rfl 74 z256 (heap_alloc_new _ _) (by rw [HT.out]; kernel_rfl) (by rw [HT.out, HZ.out]) ?_ ?_)
    | (with_reducible refine wpl_bytes rfl _ _ _ rfl 5 Tryd.underlying9 Tryd.underlying34 Tryd.underlying5 s rfl ?_; intro g c k w2 HG HC HR HB))

  · rw [Array.all_eq_true']
    intro u hu
    exact tab_one u (by simpa using hu)
  have hb2 : Below w.heap.size w w2 := ((hb1.alloc hb1.size _).trans (below_grown (grownBy_setRow _ w1.heap.size _) (hb1.size) (by simp; have := hb1.size; omega))).trans (HB.mono (by simp [World.setRow]; have := hb1.size; omega))
  have hT : Row w2 w1.heap.size 74 (tab 256) := Row.below (by
    have := setRow_heap (w1.alloc (.cells z256 74)) w1.heap.size _ (tab 256).toArray 74 (0, 0) (heap_alloc_new _ _)
    exact this) HB (by simp [World.setRow])
  have HB2 := hid hb2
  have HT2 := hid hT
  have HS := hid (sb_len s)
  clear hb2 hT HB hb1
  have hn := not_code x
  go_loop [6, 15] (fun r i => ∃ k : Nat, k ≤ s.size ∧ i = .int .i64 k ∧ r = .int .u32 ((byAll (~~~x) ((sb s).take k)).toNat : Int)) (fun _ i => s.size - (intOf i).toNat)
  case atStart => exact ⟨0, by omega, rfl, by rw [hn]; rfl⟩
  case round =>
    obtain ⟨k, hk, rfl, rfl⟩ := hrel
    by_cases hlt : k < s.size
    · have hkl : k < (sb s).length := by rw [HS.out]; exact hlt
      have hc := HR.cell k
      rw [List.getElem?_append_left (by rw [bvs_len]; exact hkl)] at hc
      simp only [bvs, List.getElem?_map, List.getElem?_eq_getElem hkl, Option.map_some, bv] at hc
      have hstep : byAll (~~~x) ((sb s).take (k + 1)) = byStep (byAll (~~~x) ((sb s).take k)) (sb s)[k] := by
        rw [List.take_succ_eq_append_getElem hkl, byAll_app]; rfl
      generalize hb : (sb s)[k] = b at hc hstep
      generalize hx : byAll (~~~x) ((sb s).take k) = r at hstep ⊢
      have h1 : r.toNat < 4294967296 := r.isLt
      have h2 : b.toNat < 256 := UInt8.toNat_lt b
      have hix := idx_code r b
      have htc := tab_code r b
      generalize hm : (r.setWidth 8 ^^^ b.toBitVec).toNat = m at hix htc
      have hm2 : m < 256 := by rw [← hm]; exact BitVec.isLt _
      have hcell := (HT2.out.cell m).trans (tab_get m hm2)
      have HST := hid hstep
      have HTC := hid htc
      clear hb hx hstep htc hm
      go_wp2_with fail
      go_round
      case rel => exact ⟨k + 1, by omega, by go_num, by rw [HST.out, HTC.out]⟩
      case measure => simp [intOf]; omega
    · obtain rfl : k = s.size := by omega
      have hxt : byAll (~~~x) ((sb s).take s.size) = byAll (~~~x) (sb s) := by rw [List.take_of_length_le (by rw [HS.out]; exact Nat.le_refl _)]
      have hn2 := not_code (byAll (~~~x) (sb s))
      rw [hxt]
      have HN := hid hn2
      clear hn2 hxt
      go_wp2_with fail
      go_ret
      exact ⟨ret_int HN.out, HB2.out⟩
end Go.Proofs.YtknalgobndbngaaDoor
