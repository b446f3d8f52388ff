/-
  The walks of Sum, and of the document's Add and Sum.
-/
import Derived.Test.YtknalgobndbngaaDoorAdd
namespace Go.Proofs.YtknalgobndbngaaDoor
open Go.RowKit
set_option maxRecDepth 10000

theorem u32_zero : ((0#32 : BitVec 32).toNat : Int) = 0 := rfl

set_option maxHeartbeats 400000 in
theorem sum_calls (s : ByteArray) (w : World) (hs : s.size ≤ 1125899906842624) :
    Calls Tryd.prog 33 #[.string s] w fun e w' => e = .returned (.int .u32 ((addS 0#32 (sb s)).toNat : Int)) ∧ Below w.heap.size w w' := by
  have P := fun W => add_calls 0#32 s W hs
  simp only [u32_zero] at P
  have H := hid P
  clear P
  go_enter Tryd.func33, Tryd.ntmps33
  go_wp2_with (go_at_call 43; refine (H.out _).mono ?_; rintro e w1 ⟨rfl, hb1⟩)
  go_ret
  exact ⟨rfl, hb1⟩

theorem u8_up32 (b : UInt8) : ((b.toNat : Nat) : Int) = ((b.toBitVec.setWidth 32).toNat : Int) := by
  rw [BitVec.toNat_setWidth, Nat.mod_eq_of_lt]
  · rfl
  · have : b.toBitVec.toNat < 2 ^ 8 := b.toBitVec.isLt
    omega
theorem in_code (r : BitVec 32) (b : UInt8) : bits .xor .u32 (r.toNat : Int) (b.toNat : Int) = ((r ^^^ b.toBitVec.setWidth 32).toNat : Int) := by
  rw [u8_up32, xor32]

theorem less_nat (x : BitVec 32) : 4294967295 - x.toNat = (~~~x).toNat := by
  rw [BitVec.toNat_not]

set_option maxHeartbeats 400000 in
theorem radd_calls (x : BitVec 32) (s : ByteArray) (w : World) (hs : s.size ≤ 1125899906842624) :
    Calls Tryd.prog 48 #[.int .u32 (x.toNat : Int), .string s] w fun e w' => e = .returned (.int .u32 ((addS x (sb s)).toNat : Int)) ∧ w = w' := by
  have hx1 : x.toNat < 4294967296 := x.isLt
  have HS := hid (sb_len s)
  go_enter Tryd.func48, Tryd.ntmps48
  go_wp2_with fail
  go_loop [5, 6] (fun r i => ∃ k : Nat, k ≤ s.size ∧ i = .int .i64 k ∧ r = .int .u32 ((byAll (~~~x) ((sb s).take k)).toNat : Int)) (fun _ i => s.size - (intOf i).toNat)
  case atStart => exact ⟨0, by omega, rfl, by rw [less_code]; rfl⟩
  case round =>
    obtain ⟨k, hk, rfl, rfl⟩ := hrel
    by_cases hlt : k < s.size
    · have hkl : k < (sb s).length := by rw [HS.out]; exact hlt
      have hstep : byAll (~~~x) ((sb s).take (k + 1)) = byStep (byAll (~~~x) ((sb s).take k)) (s[k]'hlt) := by
        rw [List.take_succ_eq_append_getElem hkl, byAll_app]; rfl
      generalize hx : byAll (~~~x) ((sb s).take k) = r at hstep ⊢
      have HIN := hid (in_code r (s[k]'hlt))
      have h1 : r.toNat < 4294967296 := r.isLt
      have h2 : (s[k]'hlt).toNat < 256 := UInt8.toNat_lt _
      have HST := hid hstep
      clear hx hstep
      go_wp2_with (go_at_call 55; rw [HIN.out]; refine (steps_calls _ _).mono ?_; rintro e w' ⟨rfl, rfl⟩)
      go_round
      case rel => exact ⟨k + 1, by omega, by go_num, by rw [HST.out]; rfl⟩
      case measure => simp [intOf]; omega
    · obtain rfl : k = s.size := by omega
      have hxt : byAll (~~~x) ((sb s).take s.size) = byAll (~~~x) (sb s) := by rw [List.take_of_length_le (by rw [HS.out]; exact Nat.le_refl _)]
      rw [hxt]
      generalize hb : byAll (~~~x) (sb s) = r
      have h3 : r.toNat < 4294967296 := r.isLt
      have HN := hid (less_code r)
      have HA : Hid (addS x (sb s) = ~~~r) := hid (by rw [addS, hb])
      clear hb hxt
      go_wp2_with fail
      go_ret
      exact ⟨ret_int (by rw [HA.out]; exact HN.out), rfl⟩

set_option maxHeartbeats 400000 in
theorem rsum_calls (s : ByteArray) (w : World) (hs : s.size ≤ 1125899906842624) :
    Calls Tryd.prog 37 #[.string s] w fun e w' => e = .returned (.int .u32 ((addS 0#32 (sb s)).toNat : Int)) ∧ w = w' := by
  have P := fun W => radd_calls 0#32 s W hs
  simp only [u32_zero] at P
  have H := hid P
  clear P
  go_enter Tryd.func37, Tryd.ntmps37
  go_wp2_with (go_at_call 48; refine (H.out _).mono ?_; rintro e w1 ⟨rfl, rfl⟩)
  go_ret
  exact ⟨rfl, rfl⟩
end Go.Proofs.YtknalgobndbngaaDoor
