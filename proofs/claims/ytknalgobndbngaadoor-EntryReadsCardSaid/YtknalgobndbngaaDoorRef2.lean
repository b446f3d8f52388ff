/-
  The walk of the answer held against Take.
-/
import Derived.Test.YtknalgobndbngaaDoorTake
namespace Go.Proofs.YtknalgobndbngaaDoor
open Go.RowKit
set_option maxRecDepth 10000

theorem leV_lt : ∀ l : List UInt8, leV l < 2 ^ (8 * l.length)
  | [] => by simp [leV]
  | b :: r => by
    have h := leV_lt r
    have h1 : b.toNat < 256 := UInt8.toNat_lt _
    rw [leV, List.length_cons, show 8 * (r.length + 1) = 8 * r.length + 8 by omega, Nat.pow_add]
    omega

set_option maxHeartbeats 400000 in
theorem rtake_arg (A : Option Addr) (l c : Nat) (at_ size : Int) (w : World) (h : ¬ (1 ≤ size ∧ size ≤ 8) ∨ at_ < 0) :
    Calls Tryd.prog 50 #[.slice A l c, .int .i64 at_, .int .i64 size] w (NE w (0, 1)) := by
  by_cases h1 : size < 1
  · clear h
    go_enter Tryd.func50, Tryd.ntmps50
    go_wp2_with fail
    go_ret2
    exact ⟨rfl, Below.refl _ _⟩
  · by_cases h2 : 8 < size
    · clear h
      go_enter Tryd.func50, Tryd.ntmps50
      go_wp2_with fail
      go_ret2
      exact ⟨rfl, Below.refl _ _⟩
    · have h3 : at_ < 0 := by omega
      clear h
      go_enter Tryd.func50, Tryd.ntmps50
      go_wp2_with fail
      go_ret2
      exact ⟨rfl, Below.refl _ _⟩

set_option maxHeartbeats 400000 in
theorem rtake_short (A : Option Addr) (l c : Nat) (at_ size : Int) (w : World) (h1 : 1 ≤ size) (h8 : size ≤ 8) (h0 : 0 ≤ at_) (hl : l ≤ 140737488355328) (hs : (l : Int) - size < at_) :
    Calls Tryd.prog 50 #[.slice A l c, .int .i64 at_, .int .i64 size] w (NE w (0, 3)) := by
  go_enter Tryd.func50, Tryd.ntmps50
  go_wp2_with fail
  go_ret2
  exact ⟨rfl, Below.refl _ _⟩

set_option maxHeartbeats 800000 in
theorem rtake_ok (A : Option Addr) (bs : List UInt8) (l c a s B : Nat) (w : World) (hr : Rd w B A (bvs bs)) (hll : l = bs.length) (h1 : 1 ≤ s) (h8 : s ≤ 8) (hl : l ≤ 140737488355328) (has : a + s ≤ l) :
    Calls Tryd.prog 50 #[.slice A l c, .int .i64 a, .int .i64 s] w (NE w (leV ((bs.drop a).take s), 0)) := by
  obtain ⟨g0, o, rfl, hg0, hx⟩ := Rd.at_ hr (j := 0) (by rw [bvs_len]; omega)
  clear hx
  have HL := hid hll
  clear hll
  have hlen : ((bs.drop a).take s).length = s := by have := HL.out; simp; omega
  have hget : ∀ i (h : i < s), w.cell? ⟨g0, o + (a + i), none⟩ = some (.int .u8 ((((bs.drop a).take s)[i]'(by rw [hlen]; exact h)).toNat : Int)) := by
    intro i h
    obtain ⟨g1, o1, e, _, hc⟩ := Rd.at_ hr (j := a + i) (by rw [bvs_len]; have := HL.out; omega)
    cases e
    rw [hc]
    simp [bvs, bv]
  generalize hxs : (bs.drop a).take s = xs at *
  have HX := hid hlen
  have HGET := hid hget
  clear hxs hget
  go_enter Tryd.func50, Tryd.ntmps50
  go_wp2_with fail
  go_loop [8, 9] (fun v i => ∃ (x : Int) (m : Nat), -1 ≤ x ∧ x < s ∧ i = .int .i64 x ∧ v = .int .u64 (m : Int) ∧ Hid (m = leV (xs.drop (x + 1).toNat))) (fun _ i => (intOf i + 1).toNat)
  case atStart => exact ⟨(s : Int) - 1, 0, by omega, by omega, rfl, rfl, hid (by rw [List.drop_of_length_le (by rw [HX.out]; omega)]; rfl)⟩
  case round =>
    obtain ⟨x, m, hx1, hx2, rfl, rfl, hm⟩ := hrel
    by_cases hlt : 0 ≤ x
    · obtain ⟨i, rfl⟩ := Int.eq_ofNat_of_zero_le hlt
      have hi : i < s := by omega
      have hi2 : i < xs.length := by rw [HX.out]; exact hi
      have hc := HGET.out i hi
      generalize hb : xs[i] = b at *
      have HB := hid hb
      clear hb
      have hd : leV (xs.drop i) = b.toNat + 256 * m := by
        rw [List.drop_eq_getElem_cons hi2, leV, HB.out, hm.out]
        rfl
      have hlt2 := leV_lt (xs.drop i)
      have h2 : 2 ^ (8 * (xs.drop i).length) ≤ 2 ^ 64 := Nat.pow_le_pow_right (by omega) (by simp [HX.out]; omega)
      have hw : IntKind.u64.wrap (IntKind.u64.wrap ((m : Int) * 256) + IntKind.u64.wrap (b.toNat : Int)) = ((leV (xs.drop i) : Nat) : Int) := by
        rw [IntWalk.u64_in ((m : Int) * 256) ⟨by omega, by omega⟩, IntWalk.u64_in (b.toNat : Int) ⟨by omega, by omega⟩, IntWalk.u64_in _ ⟨by omega, by omega⟩]
        omega
      have HW := hid hw
      clear hw hd hlt2 h2
      go_wp2_with fail
      go_round
      case rel => exact ⟨(i : Int) - 1, leV (xs.drop i), by omega, by omega, rfl, by rw [HW.out], hid (by simp)⟩
      case measure => simp [intOf]
    · go_wp2_with fail
      go_ret2
      obtain rfl : x = -1 := by omega
      refine ⟨?_, Below.refl _ _⟩
      have := hm.out
      simp at this
      rw [this]
      rfl

theorem rtake_any (A : Option Addr) (bs : List UInt8) (l c B : Nat) (at_ size : Int) (w : World) (hr : Rd w B A (bvs bs)) (hll : l = bs.length) (hl : l ≤ 140737488355328) :
    Calls Tryd.prog 50 #[.slice A l c, .int .i64 at_, .int .i64 size] w (NE w (takeS bs at_ size)) := by
  unfold takeS
  by_cases h : ¬ (1 ≤ size ∧ size ≤ 8) ∨ at_ < 0
  · rw [if_pos h]
    exact rtake_arg A l c at_ size w h
  · rw [if_neg h]
    have h1 : 1 ≤ size ∧ size ≤ 8 := by omega
    have h2 : 0 ≤ at_ := by omega
    by_cases h3 : (bs.length : Int) - size < at_
    · rw [if_pos h3]
      exact rtake_short A l c at_ size w h1.1 h1.2 h2 hl (by rw [hll]; exact h3)
    · rw [if_neg h3]
      obtain ⟨s, rfl⟩ := Int.eq_ofNat_of_zero_le (show 0 ≤ size by omega)
      obtain ⟨a, rfl⟩ := Int.eq_ofNat_of_zero_le h2
      exact rtake_ok A bs l c a s B w hr hll (by omega) (by omega) hl (by omega)
end Go.Proofs.YtknalgobndbngaaDoor
