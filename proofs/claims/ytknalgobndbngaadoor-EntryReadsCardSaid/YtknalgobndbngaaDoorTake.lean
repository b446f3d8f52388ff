/-
  The walks of Take and of the answer held against it.
-/
import Derived.Test.YtknalgobndbngaaDoorRef1
namespace Go.Proofs.YtknalgobndbngaaDoor
open Go.RowKit
set_option maxRecDepth 10000

/-- the number of some bytes, the lowest first -/
def leV : List UInt8 → Nat
  | [] => 0
  | b :: r => b.toNat + 256 * leV r
/-- a number and an error's number -/
def NE (w : World) (r : Nat × Int) (e : Ending) (w' : World) : Prop :=
  e = .returned (.tuple #[.int .u64 (r.1 : Int), .int .i64 r.2]) ∧ Below w.heap.size w w'
/-- what Take answers -/
def takeS (bs : List UInt8) (at_ size : Int) : Nat × Int :=
  if ¬ (1 ≤ size ∧ size ≤ 8) ∨ at_ < 0 then (0, 1) else if (bs.length : Int) - size < at_ then (0, 3) else (leV ((bs.drop at_.toNat).take size.toNat), 0)

theorem lacks_any (A : Option Addr) (l c : Nat) (at_ size : Int) (w : World) (h0 : 0 ≤ size) (h8 : size ≤ 70000) (hl : l ≤ 140737488355328) :
    Calls Tryd.prog 56 #[.slice A l c, .int .i64 at_, .int .i64 size] w fun e w' => e = .returned (.bool (decide ((l : Int) - size < at_))) ∧ w = w' := by
  go_enter Tryd.func56, Tryd.ntmps56
  go_wp2
  go_ret
  exact ⟨rfl, rfl⟩

set_option maxHeartbeats 400000 in
theorem take_arg (A : Option Addr) (l c : Nat) (at_ size : Int) (w : World) (h : ¬ (1 ≤ size ∧ size ≤ 8) ∨ at_ < 0) :
    Calls Tryd.prog 49 #[.slice A l c, .int .i64 at_, .int .i64 size] w (NE w (0, 1)) := by
  by_cases h1 : 1 ≤ size ∧ size ≤ 8
  · have h2 : at_ < 0 := h.resolve_left (fun h => h h1)
    clear h
    have H1 := hid h1
    clear h1
    go_enter Tryd.func49, Tryd.ntmps49
    go_wp2_with (go_at_call 52; refine (isSize_yes _ _ H1.out.1 H1.out.2).mono ?_; rintro e w' ⟨rfl, rfl⟩)
    go_ret2
    exact ⟨rfl, Below.refl _ _⟩
  · clear h
    have H1 := hid h1
    clear h1
    go_enter Tryd.func49, Tryd.ntmps49
    go_wp2_with (go_at_call 52; refine (isSize_no _ _ H1.out).mono ?_; rintro e w' ⟨rfl, rfl⟩)
    go_ret2
    exact ⟨rfl, Below.refl _ _⟩

set_option maxHeartbeats 400000 in
theorem take_short (A : Option Addr) (l c : Nat) (at_ size : Int) (w : World) (h1 : 1 ≤ size) (h8 : size ≤ 8) (h0 : 0 ≤ at_) (hl : l ≤ 140737488355328) (hs : decide ((l : Int) - size < at_) = true) :
    Calls Tryd.prog 49 #[.slice A l c, .int .i64 at_, .int .i64 size] w (NE w (0, 3)) := by
  have HS := hid hs
  clear hs
  go_enter Tryd.func49, Tryd.ntmps49
  go_wp2_with (first
    | (go_at_call 52; refine (isSize_yes _ _ h1 h8).mono ?_; rintro e w' ⟨rfl, rfl⟩)
    | (go_at_call 56; refine (lacks_any A l c at_ size _ (by omega) (by omega) hl).mono ?_; rw [HS.out]; rintro e w' ⟨rfl, rfl⟩))
  go_ret2
  exact ⟨rfl, Below.refl _ _⟩

/-- the eight cells behind the copy -/
def tw (xs : List UInt8) : List Value := bvs xs ++ List.replicate (8 - xs.length) (.int .u8 0)
theorem tw_len (xs : List UInt8) (h : xs.length ≤ 8) : (tw xs).length = 8 := by simp [tw, bvs_len]; omega
theorem tw_splice (xs : List UInt8) : splice (List.replicate 8 (Value.int .u8 0)) 0 (bvs xs) = tw xs := by
  unfold splice tw
  rw [List.drop_replicate]
  simp [bvs_len]
/-- its byte at k -/
def tb (xs : List UInt8) (k : Nat) : Nat := (xs.getD k 0).toNat
theorem tw_at (xs : List UInt8) (k : Nat) (h : k < 8) : (tw xs)[k]? = some (.int .u8 ((tb xs k : Nat) : Int)) := by
  unfold tw tb
  by_cases hk : k < xs.length
  · rw [List.getElem?_append_left (by rw [bvs_len]; exact hk)]
    simp [bvs, bv, hk]
  · rw [List.getElem?_append_right (by rw [bvs_len]; omega), bvs_len, List.getElem?_replicate, if_pos (by omega)]
    simp [List.getD, List.getElem?_eq_none (show xs.length ≤ k by omega)]

/-- the number of the first k bytes -/
def acc (xs : List UInt8) : Nat → Nat
  | 0 => 0
  | k + 1 => acc xs k + tb xs k * 2 ^ (8 * k)
theorem tb_lt (xs : List UInt8) (k : Nat) : tb xs k < 256 := by unfold tb; exact UInt8.toNat_lt _
theorem acc_lt (xs : List UInt8) : ∀ k, acc xs k < 2 ^ (8 * k)
  | 0 => by simp [acc]
  | k + 1 => by
    have h := acc_lt xs k
    have h1 := tb_lt xs k
    rw [acc, show 8 * (k + 1) = 8 * k + 8 by omega, Nat.pow_add]
    have h2 : tb xs k * 2 ^ (8 * k) ≤ 255 * 2 ^ (8 * k) := Nat.mul_le_mul_right _ (by omega)
    omega
theorem acc_or (xs : List UInt8) (k : Nat) : acc xs k ||| (tb xs k * 2 ^ (8 * k)) = acc xs (k + 1) := by
  have h := Nat.two_pow_add_eq_or_of_lt (acc_lt xs k) (tb xs k)
  rw [acc, Nat.or_comm, Nat.mul_comm (tb xs k), ← h, Nat.add_comm]
theorem leV_snoc : ∀ (l : List UInt8) (b : UInt8), leV (l ++ [b]) = leV l + b.toNat * 2 ^ (8 * l.length)
  | [], b => by simp [leV]
  | c :: l, b => by
    simp only [List.cons_append, leV, leV_snoc l b, List.length_cons]
    rw [show 8 * (l.length + 1) = 8 * l.length + 8 by omega, Nat.pow_add, Nat.mul_add]
    have : 256 * (b.toNat * 2 ^ (8 * l.length)) = b.toNat * (2 ^ (8 * l.length) * 2 ^ 8) := by
      rw [Nat.mul_left_comm, Nat.mul_comm 256]
    omega
theorem acc_take (xs : List UInt8) : ∀ k, acc xs k = leV (xs.take k)
  | 0 => by simp [acc, leV]
  | k + 1 => by
    rw [acc, acc_take xs k]
    by_cases hk : k < xs.length
    · rw [List.take_succ_eq_append_getElem hk, leV_snoc, List.length_take, Nat.min_eq_left (by omega)]
      simp [tb, hk]
    · have h0 : tb xs k = 0 := by simp [tb, List.getD, List.getElem?_eq_none (show xs.length ≤ k by omega)]
      rw [h0, List.take_of_length_le (by omega), List.take_of_length_le (by omega)]
      simp
theorem bits_or_u64 (x y : Nat) (hx : x < 2 ^ 64) (hy : y < 2 ^ 64) : bits .or .u64 x y = ((x ||| y : Nat) : Int) := by
  have e : ∀ z : Nat, BitVec.ofInt 64 (z : Int) = BitVec.ofNat 64 z := fun z => BitVec.ofInt_natCast 64 z
  have h1 : (BitVec.ofInt IntKind.u64.bits (x : Int) ||| BitVec.ofInt IntKind.u64.bits (y : Int)).toNat = x ||| y := by
    show (BitVec.ofInt 64 (x : Int) ||| BitVec.ofInt 64 (y : Int)).toNat = x ||| y
    rw [e, e, BitVec.toNat_or, BitVec.toNat_ofNat, BitVec.toNat_ofNat, Nat.mod_eq_of_lt hx, Nat.mod_eq_of_lt hy]
  have h2 : x ||| y < 2 ^ 64 := Nat.or_lt_two_pow hx hy
  show IntKind.u64.wrap _ = _
  rw [h1]
  exact IntWalk.u64_in _ ⟨by omega, by omega⟩
theorem acc_step (xs : List UInt8) (k : Nat) (hk : k < 8) :
    bits .or .u64 (acc xs k : Int) (IntKind.u64.wrap (IntKind.u64.wrap (tb xs k : Int) * 2 ^ (8 * k))) = ((acc xs (k + 1) : Nat) : Int) := by
  have h1 := tb_lt xs k
  have h2 : 2 ^ (8 * (k + 1)) ≤ 2 ^ 64 := Nat.pow_le_pow_right (by omega) (by omega)
  have h3 := acc_lt xs (k + 1)
  have h4 : tb xs k * 2 ^ (8 * k) ≤ acc xs (k + 1) := by rw [acc]; omega
  have h5 : acc xs k ≤ acc xs (k + 1) := by rw [acc]; omega
  rw [IntWalk.u64_in (tb xs k : Int) ⟨by omega, by omega⟩]
  have e : ((tb xs k : Int) * 2 ^ (8 * k)) = ((tb xs k * 2 ^ (8 * k) : Nat) : Int) := by simp
  rw [e, IntWalk.u64_in _ ⟨by omega, by omega⟩, bits_or_u64 _ _ (by omega) (by omega), acc_or]

set_option maxHeartbeats 800000 in
theorem take_ok (A : Option Addr) (bs : List UInt8) (l c a s B : Nat) (w : World) (hr : Rd w B A (bvs bs)) (hll : l = bs.length) (h1 : 1 ≤ s) (h8 : s ≤ 8) (hl : l ≤ 140737488355328) (hlc : l ≤ c) (has : a + s ≤ l) (hB : B ≤ w.heap.size) :
    Calls Tryd.prog 49 #[.slice A l c, .int .i64 a, .int .i64 s] w (NE w (leV ((bs.drop a).take s), 0)) := by
  obtain ⟨g0, o, rfl, hg0, hx⟩ := Rd.at_ hr (j := 0) (by rw [bvs_len]; omega)
  clear hx
  have HL := hid hll
  clear hll
  have HS : Hid (decide ((l : Int) - s < a) = false) := hid (by simp; omega)
  go_enter Tryd.func49, Tryd.ntmps49
  go_wp2_with (first
    | (go_at_call 52; refine (isSize_yes _ _ (by omega) (by omega)).mono ?_; rintro e w' ⟨rfl, rfl⟩)
    | (go_at_call 56; refine (lacks_any _ l c a s _ (by omega) (by omega) hl).mono ?_; rw [HS.out]; rintro e w' ⟨rfl, rfl⟩))
  have hws := IntWalk.i64_in ((a : Int) + s) (by omega)
  have q1 : (a : Int) ≤ (a : Int) + s := by omega
  have q2 : (a : Int) + s ≤ c := by omega
  have q3 : ¬ c = a := by omega
  have q4 : ((a : Int) + s).toNat = a + s := by omega
  have f1 : Hid (Rd w B (some ⟨g0, o + a, none⟩) (bvs ((bs.drop a).take s))) := hid (by
    have h := (hr.cut (k := a) (cap := c) (by rw [bvs_len]; have := HL.out; omega) (by rw [bvs_len]; have := HL.out; omega)).take s
    rw [if_neg q3] at h
    simpa [bvs, add_lit] using h)
  have hlen : ((bs.drop a).take s).length = s := by have := HL.out; simp; omega
  generalize hxs : (bs.drop a).take s = xs at *
  have HX := hid hlen
  clear hxs hlen
  go_region_law (refine step_of_wpo rfl (wpo_copy (.tmp 23) (.tmp 29) 34 34 rfl 5 Tryd.underlying34 rfl (some ⟨w.heap.size, 0, none⟩) (some ⟨g0, o + a, none⟩) 8 8 s (c - a) (by simp [Act.eval, Act.put]) (by simp [Act.eval, Act.put]) w.heap.size 0 _ 79 (Row.new _ _ _) B (bvs xs) (fun w3 HR3 HB3 => ?_) (hid (f1.out.below (((Below.refl _ _).alloc hB _).drew) (Nat.le_refl _))) (hid (by rw [bvs_len, HX.out]; exact (Nat.min_eq_left h8).symm)) (hid (fun _ => rfl)) (hid (by rw [bvs_len, HX.out]; simp; omega)) (hid (bvs_one xs))))
  have HR : Row w3 w.heap.size 79 (tw xs) := by
    rw [← tw_splice]
    exact HR3
  have HB : Below w.heap.size w w3 := (((Below.refl _ _).alloc (Nat.le_refl _) _).drew).trans (below_grown HB3 (Nat.le_refl _) (by simp))
  clear HR3 HB3
  have HT : Hid ((tw xs).toArray.size = 8) := hid (by simpa using tw_len xs (by rw [HX.out]; omega))
  go_wp2_with (refine wpList_load_row rfl 79 (.tmp 8) rfl w.heap.size rfl 79 (tw xs).toArray (0, 0) _ HR Tryd.underlying79 rfl (by rw [HT.out]; kernel_rfl) ?_)
  go_loop [9, 10, 11, 32] (fun v _ _ i => ∃ k : Nat, k ≤ 8 ∧ i = .int .i64 k ∧ v = .int .u64 ((acc xs k : Nat) : Int)) (fun _ _ _ i => 8 - (intOf i).toNat)
  case atStart => exact ⟨0, by omega, rfl, rfl⟩
  case round =>
    obtain ⟨k, hk, rfl, rfl⟩ := hrel
    by_cases hlt : k < 8
    · have hix := run_index_arr (P := Tryd.prog) w3 79 5 8 (tw xs).toArray .i64 k _ .u8 Tryd.underlying79 Tryd.underlying5 (by kernel_rfl) hlt (by simpa using tw_at xs k hlt)
      go_wp2_with fail
      go_roundw
      case rel => exact ⟨k + 1, by omega, by go_num, by rw [acc_step xs k hlt]⟩
      case measure => simp [intOf]; omega
    · obtain rfl : k = 8 := by omega
      go_wp2_with fail
      go_ret2
      refine ⟨?_, HB⟩
      rw [acc_take, List.take_of_length_le (by rw [HX.out]; omega)]
      rfl

theorem take_any (A : Option Addr) (bs : List UInt8) (l c B : Nat) (at_ size : Int) (w : World) (hr : Rd w B A (bvs bs)) (hll : l = bs.length) (hl : l ≤ 140737488355328) (hlc : l ≤ c) (hB : B ≤ w.heap.size) :
    Calls Tryd.prog 49 #[.slice A l c, .int .i64 at_, .int .i64 size] w (NE w (takeS bs at_ size)) := by
  unfold takeS
  by_cases h : ¬ (1 ≤ size ∧ size ≤ 8) ∨ at_ < 0
  · rw [if_pos h]
    exact take_arg A l c at_ size w h
  · rw [if_neg h]
    have h1 : 1 ≤ size ∧ size ≤ 8 := by omega
    have h2 : 0 ≤ at_ := by omega
    by_cases h3 : (bs.length : Int) - size < at_
    · rw [if_pos h3]
      exact take_short A l c at_ size w h1.1 h1.2 h2 hl (by rw [hll]; simpa using h3)
    · rw [if_neg h3]
      obtain ⟨s, rfl⟩ := Int.eq_ofNat_of_zero_le (show 0 ≤ size by omega)
      obtain ⟨a, rfl⟩ := Int.eq_ofNat_of_zero_le h2
      exact take_ok A bs l c a s B w hr hll (by omega) (by omega) hl hlc (by omega) hB
end Go.Proofs.YtknalgobndbngaaDoor
