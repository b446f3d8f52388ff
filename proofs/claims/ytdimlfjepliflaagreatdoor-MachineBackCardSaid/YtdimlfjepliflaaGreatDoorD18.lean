/-
  The walk of package session's take, over a session's bytes.
-/
import Derived.Test.YtdimlfjepliflaaGreatDoorD10
import Derived.Test.YtdimlfjepliflaaGreatDoorD17
import Derived.Great.BuildSlice
import Derived.Test.YtdimlfjepliflaaGreatDoorD11
import Derived.Laws.Entries
import Derived.IntWalk
import Derived.Test.YtdimlfjepliflaaGreatDoorRows
import Derived.Test.YtdimlfjepliflaaGreatDoorD01
import Derived.Test.YtdimlfjepliflaaGreatDoorD03
namespace Go.Proofs.YtdimlfjepliflaaGreatDoor
open Go.RowKit
set_option maxRecDepth 10000

/-- a session, a place and no error -/
def SP (w : World) (xs : List Value) (z : Nat) (e : Ending) (w' : World) : Prop := e = .returned (.tuple #[.agg xs.toArray, .int .i64 (z : Int), .int .i64 0]) ∧ Below w.heap.size w w'
end Go.Proofs.YtdimlfjepliflaaGreatDoor
/-
  The walk of SessionBack.
-/
namespace Go.Proofs.YtdimlfjepliflaaGreatDoor
open Go.RowKit
set_option maxRecDepth 10000

theorem Sk8.packed {w0 w : World} {p : Nat} {T : List Ss} (h : Sk8 w0 121 p T w) : Calls Tryz.prog 50 #[.pointer (some ⟨p, 0, none⟩)] w (SE w (pack T)) := by
  obtain ⟨fp, h1, _⟩ := h
  exact pack_any8 p fp T w h1
end Go.Proofs.YtdimlfjepliflaaGreatDoor
/-
  The walk of the document's Pack.
-/
namespace Go.Proofs.YtdimlfjepliflaaGreatDoor
open Go.RowKit
set_option maxRecDepth 10000

theorem nat_of {z : Int} (h : 0 ≤ z ∧ z ≤ 72057594037927935) : ∃ n : Nat, z = (n : Int) ∧ n ≤ 72057594037927935 := ⟨z.toNat, by omega, by omega⟩
end Go.Proofs.YtdimlfjepliflaaGreatDoor
/-
  Plain words on registers and chains: the step, eight of them, and why sums tell four neighbouring bytes apart.
-/
namespace Go.Proofs.YtdimlfjepliflaaGreatDoor

/-! ### numbers as the walk has them -/
theorem wrap_u32_nat (n : Nat) (h : n < 2 ^ 32) : IntKind.u32.wrap (n : Int) = n := by
  simp [IntKind.wrap, IntKind.bits, IntKind.signed]; omega
theorem wrap_u64_nat (n : Nat) (h : n < 2 ^ 64) : IntKind.u64.wrap (n : Int) = n := by
  simp [IntKind.wrap, IntKind.bits, IntKind.signed]; omega
theorem wrap_u8_nat (n : Nat) (h : n < 2 ^ 8) : IntKind.u8.wrap (n : Int) = n := by
  simp [IntKind.wrap, IntKind.bits, IntKind.signed]; omega
theorem xor32 (x y : BitVec 32) : bits .xor .u32 (x.toNat : Int) (y.toNat : Int) = ((x ^^^ y).toNat : Int) := by
  have e : ∀ z : BitVec 32, BitVec.ofInt IntKind.u32.bits (z.toNat : Int) = z := fun z => by
    show BitVec.ofInt 32 (z.toNat : Int) = z
    rw [BitVec.ofInt_natCast]; simp
  show IntKind.u32.wrap ((BitVec.ofInt IntKind.u32.bits (x.toNat : Int) ^^^ BitVec.ofInt IntKind.u32.bits (y.toNat : Int)).toNat : Int) = _
  rw [e, e]
  exact wrap_u32_nat _ (BitVec.isLt _)
theorem xor64 (x y : BitVec 64) : bits .xor .u64 (x.toNat : Int) (y.toNat : Int) = ((x ^^^ y).toNat : Int) := by
  have e : ∀ z : BitVec 64, BitVec.ofInt IntKind.u64.bits (z.toNat : Int) = z := fun z => by
    show BitVec.ofInt 64 (z.toNat : Int) = z
    rw [BitVec.ofInt_natCast]; simp
  show IntKind.u64.wrap ((BitVec.ofInt IntKind.u64.bits (x.toNat : Int) ^^^ BitVec.ofInt IntKind.u64.bits (y.toNat : Int)).toNat : Int) = _
  rw [e, e]
  exact wrap_u64_nat _ (BitVec.isLt _)
theorem xor8 (x y : BitVec 8) : bits .xor .u8 (x.toNat : Int) (y.toNat : Int) = ((x ^^^ y).toNat : Int) := by
  have e : ∀ z : BitVec 8, BitVec.ofInt IntKind.u8.bits (z.toNat : Int) = z := fun z => by
    show BitVec.ofInt 8 (z.toNat : Int) = z
    rw [BitVec.ofInt_natCast]; simp
  show IntKind.u8.wrap ((BitVec.ofInt IntKind.u8.bits (x.toNat : Int) ^^^ BitVec.ofInt IntKind.u8.bits (y.toNat : Int)).toNat : Int) = _
  rw [e, e]
  exact wrap_u8_nat _ (BitVec.isLt _)
/-! ### the register -/
def poly : BitVec 32 := 2197175160#32
/-- one step -/
def rs (x : BitVec 32) : BitVec 32 := (x >>> 1) ^^^ (if x.getLsbD 0 then poly else 0#32)
/-- so many -/
def rsn : Nat → BitVec 32 → BitVec 32
  | 0, x => x
  | k + 1, x => rs (rsn k x)
/-- by a byte -/
def byStep (r : BitVec 32) (c : UInt8) : BitVec 32 := rsn 8 (r ^^^ c.toBitVec.setWidth 32)
def byAll (r : BitVec 32) (l : List UInt8) : BitVec 32 := l.foldl byStep r
theorem half32 (x : BitVec 32) : ((x.toNat : Int) / (2 : Int)) = ((x >>> 1).toNat : Int) := by
  simp [BitVec.toNat_ushiftRight, Nat.shiftRight_eq_div_pow]
theorem lsb_mod (x : BitVec 32) : x.getLsbD 0 = decide (x.toNat % 2 = 1) := by
  rw [BitVec.getLsbD, Nat.testBit_zero]
theorem and_one (x : BitVec 32) : bits .and .u32 (x.toNat : Int) 1 = ((x.toNat % 2 : Nat) : Int) := by
  have e : BitVec.ofInt IntKind.u32.bits (x.toNat : Int) = x := by
    show BitVec.ofInt 32 (x.toNat : Int) = x
    rw [BitVec.ofInt_natCast]; simp
  have e1 : BitVec.ofInt IntKind.u32.bits 1 = 1#32 := rfl
  show IntKind.u32.wrap ((BitVec.ofInt IntKind.u32.bits (x.toNat : Int) &&& BitVec.ofInt IntKind.u32.bits 1).toNat : Int) = _
  rw [e, e1]
  have h : (x &&& 1#32).toNat = x.toNat % 2 := by
    rw [BitVec.toNat_and]
    show x.toNat &&& 1 = _
    rw [Nat.and_one_is_mod]
  show IntKind.u32.wrap (((x &&& 1#32).toNat : Nat) : Int) = _
  rw [h]
  exact wrap_u32_nat _ (by omega)
/-- the code's step -/
theorem rs_code (x : BitVec 32) :
    bits .xor .u32 ((x.toNat : Int) / 2) (bits .and .u32 2197175160 (-bits .and .u32 (x.toNat : Int) 1 % 4294967296)) = ((rs x).toNat : Int) := by
  rw [and_one, half32, rs, lsb_mod]
  rcases Nat.mod_two_eq_zero_or_one x.toNat with h | h
  · rw [h]
    have e : bits .and .u32 2197175160 (-((0 : Nat) : Int) % 4294967296) = ((0#32 : BitVec 32).toNat : Int) := by decide +kernel
    rw [e, xor32]
    simp
  · rw [h]
    have e : bits .and .u32 2197175160 (-((1 : Nat) : Int) % 4294967296) = (poly.toNat : Int) := by decide +kernel
    rw [e, xor32]
    simp
theorem rs_xor (x y : BitVec 32) : rs (x ^^^ y) = rs x ^^^ rs y := by
  unfold rs
  rw [BitVec.ushiftRight_xor_distrib, BitVec.getLsbD_xor]
  cases x.getLsbD 0 <;> cases y.getLsbD 0 <;> simp
  · rw [BitVec.xor_assoc]
  · rw [BitVec.xor_assoc, BitVec.xor_assoc, BitVec.xor_comm poly]
  · rw [BitVec.xor_assoc (x >>> 1) poly, ← BitVec.xor_assoc poly, BitVec.xor_comm poly, BitVec.xor_assoc (y >>> 1), BitVec.xor_self, BitVec.xor_zero]
theorem rsn_xor : ∀ (k : Nat) (x y : BitVec 32), rsn k (x ^^^ y) = rsn k x ^^^ rsn k y
  | 0, _, _ => rfl
  | k + 1, x, y => by rw [rsn, rsn_xor k, rs_xor]; rfl
/-- a register whose lowest k bits are none just moves down -/
theorem rsn_low : ∀ (k : Nat) (x : BitVec 32), (∀ i < k, x.getLsbD i = false) → rsn k x = x >>> k
  | 0, x, _ => by simp [rsn]
  | k + 1, x, h => by
    rw [rsn, rsn_low k x (fun i hi => h i (by omega)), rs, BitVec.getLsbD_ushiftRight, h (k + 0) (by omega)]
    rw [BitVec.shiftRight_add]
    simp
theorem byAll_app (r : BitVec 32) (a b : List UInt8) : byAll r (a ++ b) = byAll (byAll r a) b := by simp [byAll]
/-- the table's way: the lowest byte by the table, the rest moves down -/
theorem byStep_table (r : BitVec 32) (c : UInt8) : (r >>> 8) ^^^ rsn 8 ((r.setWidth 8 ^^^ c.toBitVec).setWidth 32) = byStep r c := by
  have h1 : r = ((r >>> 8) <<< 8) ^^^ (r.setWidth 8).setWidth 32 := by
    apply BitVec.eq_of_getLsbD_eq
    intro i hi
    rw [BitVec.getLsbD_xor, BitVec.getLsbD_shiftLeft, BitVec.getLsbD_ushiftRight, BitVec.getLsbD_setWidth, BitVec.getLsbD_setWidth]
    by_cases h8 : i < 8
    · simp [hi, h8]
    · simp [hi, h8, show 8 + (i - 8) = i by omega]
  have h2 : rsn 8 ((r >>> 8) <<< 8) = r >>> 8 := by
    rw [rsn_low 8 _ (fun i hi => by simp [hi])]
    apply BitVec.eq_of_getLsbD_eq
    intro i hi
    simp only [BitVec.getLsbD_ushiftRight, BitVec.getLsbD_shiftLeft]
    by_cases h : 8 + i < 32
    · simp [h]
    · simp [h]; exact (BitVec.getLsbD_of_ge r (8 + i) (by omega))
  have h3 : (r.setWidth 8 ^^^ c.toBitVec).setWidth 32 = (r.setWidth 8).setWidth 32 ^^^ c.toBitVec.setWidth 32 := by
    rw [BitVec.setWidth_xor]
  rw [byStep]
  conv => rhs; rw [h1]
  rw [BitVec.xor_assoc, rsn_xor, h2, h3]
theorem idx_code (r : BitVec 32) (b : UInt8) : bits .xor .u8 ((r.toNat : Int) % 256) (b.toNat : Int) = ((r.setWidth 8 ^^^ b.toBitVec).toNat : Int) := by
  have e : ((r.toNat : Int) % 256) = ((r.setWidth 8).toNat : Int) := by rw [BitVec.toNat_setWidth]; rfl
  rw [e]
  exact xor8 _ _
theorem tab_code (r : BitVec 32) (b : UInt8) :
    bits .xor .u32 ((r.toNat : Int) / 256) ((rsn 8 (BitVec.ofNat 32 (r.setWidth 8 ^^^ b.toBitVec).toNat)).toNat : Int) = ((byStep r b).toNat : Int) := by
  have e : ((r.toNat : Int) / (256 : Int)) = ((r >>> 8).toNat : Int) := by
    rw [BitVec.toNat_ushiftRight, Nat.shiftRight_eq_div_pow]
    rfl
  rw [e, xor32, ← byStep_table, BitVec.ofNat_toNat]
theorem not_code (x : BitVec 32) : bits .xor .u32 4294967295 (x.toNat : Int) = ((~~~x).toNat : Int) := by
  have e : (4294967295 : Int) = ((BitVec.allOnes 32).toNat : Int) := rfl
  rw [e, xor32, BitVec.allOnes_xor]
/-! ### four neighbouring bytes -/
/-! ### the chain -/
def fac : BitVec 64 := 1099511628211#64
def orig : BitVec 64 := 14695981039346656037#64
def linkStep (h : BitVec 64) (c : UInt8) : BitVec 64 :=
  ((h ^^^ c.toBitVec.setWidth 64) * fac) ^^^ (((h ^^^ c.toBitVec.setWidth 64) * fac) >>> 29)
/-- eight bytes of a length -/
def long8 (n : Nat) : List UInt8 := (List.range 8).map fun i => UInt8.ofNat (n / 2 ^ (8 * i))
def chainOf (h : BitVec 64) (l : List UInt8) : BitVec 64 := (l ++ long8 l.length).foldl linkStep (h ^^^ orig)
theorem mul_code (x : BitVec 64) (m : Nat) : IntKind.u64.wrap ((x.toNat : Int) * (m : Int)) = ((x * BitVec.ofNat 64 m).toNat : Int) := by
  rw [BitVec.toNat_mul, BitVec.toNat_ofNat, Nat.mul_mod_mod]
  show (x.toNat : Int) * (m : Int) % 2 ^ 64 = _
  rw [← Int.natCast_mul]
  rfl
theorem div_code (x : BitVec 64) : ((x.toNat : Int) / (536870912 : Int)) = ((x >>> 29).toNat : Int) := by
  rw [BitVec.toNat_ushiftRight, Nat.shiftRight_eq_div_pow]
  rfl
theorem byte_up (c : UInt8) : ((c.toNat : Nat) : Int) = ((c.toBitVec.setWidth 64).toNat : Int) := by
  rw [BitVec.toNat_setWidth, Nat.mod_eq_of_lt]
  · rfl
  · have : c.toBitVec.toNat < 2 ^ 8 := c.toBitVec.isLt
    omega
/-- the step as the walk has it -/
theorem link_code (h : BitVec 64) (c : UInt8) :
    bits .xor .u64 (IntKind.u64.wrap (bits .xor .u64 (h.toNat : Int) (c.toNat : Int) * 1099511628211)) (IntKind.u64.wrap (bits .xor .u64 (h.toNat : Int) (c.toNat : Int) * 1099511628211) / 536870912)
      = ((linkStep h c).toNat : Int) := by
  have e : (1099511628211 : Int) = ((1099511628211 : Nat) : Int) := rfl
  rw [byte_up, xor64, e, mul_code, div_code, xor64]
  rfl
end Go.Proofs.YtdimlfjepliflaaGreatDoor
/-
  The walks of package crc's inner functions: a step, the table, a chain's step.
-/
namespace Go.Proofs.YtdimlfjepliflaaGreatDoor
open Go.RowKit
set_option maxRecDepth 10000

theorem ret_int {k : IntKind} {a b : Int} (h : a = b) : Ending.returned (.int k a) = .returned (.int k b) := by rw [h]
theorem rs_calls (x : BitVec 32) (w : World) :
    Calls Tryz.prog 183 #[.int .u32 (x.toNat : Int)] w fun e w' => e = .returned (.int .u32 ((rs x).toNat : Int)) ∧ w = w' := by
  have h1 : x.toNat < 4294967296 := x.isLt
  have HC := hid (rs_code x)
  go_enter Tryz.func183, Tryz.ntmps183
  go_wp2
  go_ret
  exact ⟨ret_int HC.out, rfl⟩
/-- the table's first k entries; the others are none -/
def tab (k : Nat) : List Value := (List.range k).map (fun i => Value.int .u32 ((rsn 8 (BitVec.ofNat 32 i)).toNat : Int)) ++ List.replicate (256 - k) (.int .u32 0)
theorem tab_len (k : Nat) (h : k ≤ 256) : (tab k).length = 256 := by simp [tab]; omega
theorem tab_zero : tab 0 = List.replicate 256 (.int .u32 0) := by simp only [tab, List.range_zero, List.map_nil, List.nil_append, Nat.sub_zero]
theorem tab_set (k : Nat) (h : k < 256) : (tab k).set k (.int .u32 ((rsn 8 (BitVec.ofNat 32 k)).toNat : Int)) = tab (k + 1) := by
  apply List.ext_getElem?
  intro j
  rw [List.getElem?_set]
  by_cases hj : k = j
  · subst hj
    rw [if_pos rfl, if_pos (by rw [tab_len k (by omega)]; exact h), tab, List.getElem?_append_left (by simp)]
    simp
  · rw [if_neg hj]
    by_cases hlt : j < k
    · rw [tab, tab, List.getElem?_append_left (by simpa using hlt), List.getElem?_append_left (by simp; omega)]
      simp [List.getElem?_range hlt, List.getElem?_range (show j < k + 1 by omega)]
    · rw [tab, tab, List.getElem?_append_right (by simp; omega), List.getElem?_append_right (by simp; omega)]
      simp [List.getElem?_replicate]
      by_cases h2 : j < 256
      · rw [if_pos (by omega), if_pos (by omega)]
      · rw [if_neg (by omega), if_neg (by omega)]
theorem tab_get (i : Nat) (h : i < 256) : (tab 256)[i]? = some (.int .u32 ((rsn 8 (BitVec.ofNat 32 i)).toNat : Int)) := by
  rw [tab, List.getElem?_append_left (by simpa using h)]
  simp [List.getElem?_range h]
theorem tab_one : ∀ u ∈ tab 256, u.oneCell' = true := by
  intro u hu
  simp only [tab, List.mem_append, List.mem_map, List.mem_replicate] at hu
  rcases hu with ⟨i, _, rfl⟩ | ⟨_, rfl⟩ <;> rfl
def z256 : Array Value := (List.replicate 256 (.int .u32 0)).toArray
theorem zero256 (w : World) : (zeroValue 222).run Tryz.prog w = .ok (.agg z256) w := by kernel_rfl
theorem z256_list : z256.toList = tab 0 := by rw [tab_zero]; rfl
set_option maxRecDepth 100000 in
set_option maxHeartbeats 400000 in
theorem table_calls (w : World) :
    Calls Tryz.prog 174 #[] w fun e w' => e = .returned (.agg (tab 256).toArray) ∧ Below w.heap.size w w' := by
  have hz := zero256
  go_enter Tryz.func174, Tryz.ntmps174
  go_wp2_with fail
  go_loopw [4] (fun i wr => ∃ k : Nat, k ≤ 256 ∧ i = .int .i64 k ∧ Row wr w.heap.size 222 (tab 0) ∧ Row wr (w.heap.size + 1) 222 (tab k) ∧ Below w.heap.size w wr) (fun i _ => 256 - (intOf i).toNat)
  case atStart =>
    have h1 := Row.new w 222 z256
    have h2 := Row.new (w.alloc (.cells z256 222)) 222 z256
    rw [z256_list] at h1 h2
    simp only [World.alloc, Array.size_push] at h2
    exact ⟨0, by omega, rfl, h1.alloc _, h2, ((Below.refl _ _).alloc (Nat.le_refl _) _).alloc (by simp) _⟩
  case round =>
    obtain ⟨k, hk, rfl, hr0, hr1, hbe⟩ := hrel
    by_cases hlt : k < 256
    · obtain ⟨u, hu⟩ : ∃ u, (tab k)[k]? = some u := ⟨_, List.getElem?_eq_getElem (by rw [tab_len k hk]; exact hlt)⟩
      have hc := (hr1.cell k).trans hu
      have hf := hr1.frozen k
      have hst := hr1.set_ k (.int .u32 ((rsn 8 (BitVec.ofNat 32 k)).toNat : Int))
      have hst0 := hr0.far (p := ⟨w.heap.size + 1, k, none⟩) (by simp) (.int .u32 ((rsn 8 (BitVec.ofNat 32 k)).toNat : Int))
      have hb2 := hbe.setCell (p := ⟨w.heap.size + 1, k, none⟩) (by simp) (.int .u32 ((rsn 8 (BitVec.ofNat 32 k)).toNat : Int))
      rw [tab_set k hlt] at hst
      have HS := hid hst
      have HS0 := hid hst0
      have HB := hid hb2
      clear hst hr0 hr1 hst0 hb2 hbe hu
      have hd : decide ((k : Int) < 256) = true := by simp; omega
      go_wp2_with fail
      go_loop [3, 9] (fun r i => ∃ j : Nat, j ≤ 8 ∧ i = .int .i64 j ∧ r = .int .u32 ((rsn j (BitVec.ofNat 32 k)).toNat : Int)) (fun _ i => 8 - (intOf i).toNat)
      case atStart => exact ⟨0, by omega, rfl, by simp [rsn]; omega⟩
      case round =>
        obtain ⟨j, hj, rfl, rfl⟩ := hrel
        by_cases hjl : j < 8
        · go_wp2_with (go_at_call 183; refine (rs_calls _ _).mono ?_; rintro e w' ⟨rfl, rfl⟩)
          go_round
          case rel => exact ⟨j + 1, by omega, by go_num, rfl⟩
          case measure => simp [intOf]; omega
        · obtain rfl : j = 8 := by omega
          go_wp2_with fail
          go_roundw
          case rel => exact ⟨k + 1, by omega, by go_num, HS0.out, HS.out, HB.out⟩
          case measure => simp [intOf]; omega
    · obtain rfl : k = 256 := by omega
      have HT : Hid ((tab 256).toArray.size = 256) := hid (by simpa using tab_len 256 (by omega))
      have HR1 := hid hr1
      have HR0 := hid hr0
      have hb0 := hr0.lt
      clear hr0 hr1
      go_wp2_with (first
        | (refine wpList_load_row rfl 222 (.tmp 1) rfl (w.heap.size + 1) rfl 222 (tab 256).toArray (0, 0) _ HR1.out Tryz.underlying222 rfl (by rw [HT.out]; kernel_rfl) ?_)
        | (refine wpList_store_row rfl 222 (.tmp 0) (.tmp 18) rfl w.heap.size (tab 256).toArray rfl rfl 222 (tab 0).toArray HR0.out (by rw [HT.out]; kernel_rfl) (by rw [HT.out]; simpa using tab_len 0 (by omega)) ?_ ?_))
      · rw [Array.all_eq_true']
        intro u hu
        exact tab_one u (by simpa using hu)
      · have hg := setRow_heap wr w.heap.size _ (tab 256).toArray 222 (0, 0) HR0.out
        exact bodyPost_ret (v := .agg (tab 256).toArray) (results_cell_row rfl _ _ w.heap.size 222 (tab 256).toArray (0, 0) _ rfl hg Tryz.underlying222 rfl (by rw [HT.out]; kernel_rfl)) rfl
          ⟨rfl, hbe.trans (below_grown (grownBy_setRow wr w.heap.size _) (Nat.le_refl _) (by omega))⟩
end Go.Proofs.YtdimlfjepliflaaGreatDoor
/-
  The walks of Add and Sum, and of the answers held against them.
-/
namespace Go.Proofs.YtdimlfjepliflaaGreatDoor
open Go.RowKit
set_option maxRecDepth 10000

/-- what Add answers -/
def addS (x : BitVec 32) (l : List UInt8) : BitVec 32 := ~~~ byAll (~~~x) l
set_option maxRecDepth 100000 in
set_option maxHeartbeats 400000 in
theorem add_calls (x : BitVec 32) (s : ByteArray) (w : World) (hs : s.size ≤ 1125899906842624) :
    Calls Tryz.prog 164 #[.int .u32 (x.toNat : Int), .string s] w fun e w' => e = .returned (.int .u32 ((addS x (sb s)).toNat : Int)) ∧ Below w.heap.size w w' := by
  have hz := zero256
  have HT : Hid ((tab 256).toArray.size = 256) := hid (by simpa using tab_len 256 (by omega))
  have HZ : Hid (z256.size = 256) := hid (by rfl)
  have hsg : IntKind.u32.signed = false := rfl
  have hmx : IntKind.u32.max = 4294967295 := rfl
  go_enter Tryz.func164, Tryz.ntmps164
  go_wp2_with (first
    | (go_at_call 174; refine (table_calls _).mono ?_; rintro e w1 ⟨rfl, hb1⟩)
    | (refine wpList_store_row rfl 222 (.tmp 5) (.tmp 9) rfl w1.heap.size (tab 256).toArray rfl rfl 222 z256 (heap_alloc_new _ _) (by rw [HT.out]; kernel_rfl) (by rw [HT.out, HZ.out]) ?_ ?_)
    | (with_reducible refine wpl_bytes rfl _ _ _ rfl 5 Tryz.underlying9 Tryz.underlying93 Tryz.underlying5 s rfl ?_; intro g c k w2 HG HC HR HB))

  · rw [Array.all_eq_true']
    intro u hu
    exact tab_one u (by simpa using hu)
  have hb2 : Below w.heap.size w w2 := ((hb1.alloc hb1.size _).trans (below_grown (grownBy_setRow _ w1.heap.size _) (hb1.size) (by simp; have := hb1.size; omega))).trans (HB.mono (by simp [World.setRow]; have := hb1.size; omega))
  have hT : Row w2 w1.heap.size 222 (tab 256) := Row.below (by
    have := setRow_heap (w1.alloc (.cells z256 222)) w1.heap.size _ (tab 256).toArray 222 (0, 0) (heap_alloc_new _ _)
    exact this) HB (by simp [World.setRow])
  have HB2 := hid hb2
  have HT2 := hid hT
  have HS := hid (sb_len s)
  clear hb2 hT HB hb1
  have hn := not_code x
  go_loop [6, 15] (fun r i => ∃ k : Nat, k ≤ s.size ∧ i = .int .i64 k ∧ r = .int .u32 ((byAll (~~~x) ((sb s).take k)).toNat : Int)) (fun _ i => s.size - (intOf i).toNat)
  case atStart => exact ⟨0, by omega, rfl, by rw [hn]; rfl⟩
  case round =>
    obtain ⟨k, hk, rfl, rfl⟩ := hrel
    by_cases hlt : k < s.size
    · have hkl : k < (sb s).length := by rw [HS.out]; exact hlt
      have hc := HR.cell k
      rw [List.getElem?_append_left (by rw [bvs_len]; exact hkl)] at hc
      simp only [bvs, List.getElem?_map, List.getElem?_eq_getElem hkl, Option.map_some, bv] at hc
      have hstep : byAll (~~~x) ((sb s).take (k + 1)) = byStep (byAll (~~~x) ((sb s).take k)) (sb s)[k] := by
        rw [List.take_succ_eq_append_getElem hkl, byAll_app]; rfl
      generalize hb : (sb s)[k] = b at hc hstep
      generalize hx : byAll (~~~x) ((sb s).take k) = r at hstep ⊢
      have h1 : r.toNat < 4294967296 := r.isLt
      have h2 : b.toNat < 256 := UInt8.toNat_lt b
      have hix := idx_code r b
      have htc := tab_code r b
      generalize hm : (r.setWidth 8 ^^^ b.toBitVec).toNat = m at hix htc
      have hm2 : m < 256 := by rw [← hm]; exact BitVec.isLt _
      have hcell := (HT2.out.cell m).trans (tab_get m hm2)
      have HST := hid hstep
      have HTC := hid htc
      clear hb hx hstep htc hm
      go_wp2_with fail
      go_round
      case rel => exact ⟨k + 1, by omega, by go_num, by rw [HST.out, HTC.out]⟩
      case measure => simp [intOf]; omega
    · obtain rfl : k = s.size := by omega
      have hxt : byAll (~~~x) ((sb s).take s.size) = byAll (~~~x) (sb s) := by rw [List.take_of_length_le (by rw [HS.out]; exact Nat.le_refl _)]
      have hn2 := not_code (byAll (~~~x) (sb s))
      rw [hxt]
      have HN := hid hn2
      clear hn2 hxt
      go_wp2_with fail
      go_ret
      exact ⟨ret_int HN.out, HB2.out⟩
end Go.Proofs.YtdimlfjepliflaaGreatDoor
/-
  The walks of Sum, and of the document's Add and Sum.
-/
namespace Go.Proofs.YtdimlfjepliflaaGreatDoor
open Go.RowKit
set_option maxRecDepth 10000

theorem u32_zero : ((0#32 : BitVec 32).toNat : Int) = 0 := rfl
set_option maxHeartbeats 400000 in
theorem sum_calls (s : ByteArray) (w : World) (hs : s.size ≤ 1125899906842624) :
    Calls Tryz.prog 143 #[.string s] w fun e w' => e = .returned (.int .u32 ((addS 0#32 (sb s)).toNat : Int)) ∧ Below w.heap.size w w' := by
  have P := fun W => add_calls 0#32 s W hs
  simp only [u32_zero] at P
  have H := hid P
  clear P
  go_enter Tryz.func143, Tryz.ntmps143
  go_wp2_with (go_at_call 164; refine (H.out _).mono ?_; rintro e w1 ⟨rfl, hb1⟩)
  go_ret
  exact ⟨rfl, hb1⟩
end Go.Proofs.YtdimlfjepliflaaGreatDoor
/-
  append(b, make([]byte, n)...) of a row of the call's own: the same bytes, and n noughts behind them.
-/
namespace Go.Proofs.YtdimlfjepliflaaGreatDoor
open Go.RowKit

theorem zeroes_u8 (n : Nat) : Builtin.zeroCells #[Value.int .u8 0] n = (List.replicate n (Value.int .u8 0)).toArray := by
  apply Array.ext
  · simp [Builtin.zeroCells]
  · intro i h1 h2
    simp [Builtin.zeroCells, Nat.mod_one]
theorem run_append_zeros {P : Program} (w : World) (base : Nat) (t u ty e : TypeId) (i : TypeInfo) (ik : IntKind) (ht : P.underlying t = some (.slice e)) (hu : P.underlying u = some (.int ik)) (hi : P.info? e = some i) (hz : i.zero = some (.int .u8 0))
    (hsize : i.size = 1) (hby : i.bytes = 1) (v : Value) (n : Nat) (xs : List Value) (hown : w.ownsRow base e 1 v n xs) (m : Nat) (h0 : 0 < n) (h63 : n + m ≤ 140737488355328) (hbase : base ≤ w.heap.size) :
    ∃ v' w', (Builtin.append_ #[t, u] ty #[v, .int .i64 m]).run P w = .ok v' w' ∧ w'.ownsRow base e 1 v' (n + m) (xs ++ List.replicate m (.int .u8 0)) ∧ w.grownBy w' v.ownBlock := by
  have hw : IntKind.i64.wrap (m : Int) = m := by rw [IntKind.wrap_i64]; omega
  have hm63 : n + m ≤ maxLen := by simp only [maxLen]; omega
  have hlen : (xs ++ List.replicate m (Value.int .u8 0)).length = (n + m) * 1 := by rw [List.length_append, hown.1]; simp
  have hneg : ¬ ((m : Int) < 0) := by omega
  have h48i : ¬ (281474976710656 < (m : Int)) := by omega
  have hone : ∀ u ∈ List.replicate m (Value.int .u8 0), u.oneCell' = true := by
    intro u hu
    rw [(List.mem_replicate.1 hu).2]
    rfl
  rcases hown.2 with ⟨rfl, h⟩ | ⟨g, cap, cur, rfl, hbg, hg, hnc, hcm, hcs, htake⟩
  · omega
  · have hx1 := hown.1
    by_cases hroom : n + m ≤ cap
    · have hst := run_storeCells_at P g (n * 1) e (List.replicate m (Value.int .u8 0)) 0 cur w hg (by simp; omega) hone
      simp only [Nat.add_zero] at hst
      have hr : (Builtin.append_ #[t, u] ty #[.slice (some ⟨g, 0, none⟩) n cap, .int .i64 m]).run P w = .ok (.slice (some ⟨g, 0, none⟩) (n + m) cap) (w.setRow g (cur.toList.take (n * 1) ++ List.replicate m (Value.int .u8 0) ++ cur.toList.drop (n * 1 + (List.replicate m (Value.int .u8 0)).length)).toArray) := by
        by_cases hm : m = 0
        · subst hm
          have he : (List.take n cur.toList ++ List.drop n cur.toList).toArray = cur := by simp
          have hsr : w.setRow g cur = w := by
            have := setRow_heap w g cur cur e (0, 0) hg
            unfold World.setRow
            congr 1
            apply Array.ext
            · simp
            · intro j h1 h2
              by_cases hj : j = g
              · subst hj
                have h3 := (Array.getElem?_eq_some_iff.1 hg).2
                simp [Array.getElem_modify, h3]
              · simp [Array.getElem_modify, Ne.symm hj]
          simp [Builtin.append_, run_underlying ht, run_underlying hu, sizeOf, typeInfo, hi, hby, asInt, asIntOf, show IntKind.i64.wrap 0 = 0 from rfl, hnc, storeCells, hsr]
        · simp [Builtin.append_, run_underlying ht, run_underlying hu, sizeOf, typeInfo, zeroValue, hi, hz, hsize, hby, asInt, asIntOf, hw, hneg, h48i, hroom, hm, Value.cells, zeroes_u8, Addr.add_lit] at hst ⊢
          simp [hst]
      refine ⟨_, _, hr, ⟨hlen, .inr ⟨g, cap, _, rfl, hbg, setRow_heap w g cur _ e _ hg, hroom, hcm, ?_, ?_⟩⟩, ⟨rfl, rfl, rfl, by simp, fun k _ hk => setRow_other w g k _ (fun e => hk (by simp [Value.ownBlock, e]))⟩⟩
      · simp
        omega
      · rw [htake, ← hlen]
        exact List.take_left
    · have holds : ∀ j u, xs[j]? = some u → w.cell? ((⟨g, 0, none⟩ : Addr).add j) = some u := hown.cells (g := g) rfl
      have hfo := run_firstCells_some (P := P) w.drew 1 n ⟨g, 0, none⟩ n cap xs hx1 (by simpa using holds)
      have hm : m ≠ 0 := by omega
      have h48' : ¬ (281474976710656 < Builtin.nextslicecap (n + m) cap) := by
        have := growslice_fits (need := n + m) (old := cap) (bytes := 1) (by omega) (by omega)
        omega
      have h63' : ¬ (9223372036854775807 < ((n : Int) + (m : Int))) := by omega
      have hge := grownCap_ge w (n + m) cap e
      have hcm' : grownCap w (n + m) cap e ≤ maxLen := grownCap_le_maxLen w (n + m) cap e hm63
      have hr : (Builtin.append_ #[t, u] ty #[.slice (some ⟨g, 0, none⟩) n cap, .int .i64 m]).run P w =
          .ok (.slice (some ⟨w.heap.size, 0, none⟩) (n + m) (grownCap w (n + m) cap e)) (w.drew.alloc (.cells (xs.toArray ++ (List.replicate m (Value.int .u8 0)).toArray ++ (List.replicate (grownCap w (n + m) cap e - (n + m)) (Value.int .u8 0)).toArray) e)) := by
        simp [Builtin.append_, run_underlying ht, run_underlying hu, sizeOf, typeInfo, zeroValue, hi, hz, hsize, hby, asInt, asIntOf, hw, hneg, h48i, hroom, hm, h63', h48', Value.cells, zeroes_u8, Question.forced, hfo, newRow, grownCap]
      refine ⟨_, _, hr, ⟨hlen, .inr ⟨w.heap.size, _, _, rfl, hbase, heap_alloc_new w.drew _, hge, hcm', ?_, ?_⟩⟩, ⟨rfl, rfl, rfl, by simp, fun k hk _ => heap_alloc_old w.drew _ hk⟩⟩
      · simp [hx1]
        omega
      · simp only [Array.toList_append, List.append_assoc]
        rw [← List.append_assoc, ← hlen]
        exact List.take_left
theorem wpl_append_zeros {P : Program} {w : World} {ops : Array Oper} {rest : List Oper} {o : Oper} {a : Act} {Q : Exit → Act → World → Prop} (hgd : o.guard = none) (sl x : Operand) (t u : TypeId)
    (ho : o.op = .call { callee := .builtin .append, args := #[sl, x], argTypes := #[t, u] })
    (base : Nat) (e : TypeId) (i : TypeInfo) (ik : IntKind) (ht : P.underlying t = some (.slice e)) (hu : P.underlying u = some (.int ik)) (hi : P.info? e = some i) (hz : i.zero = some (.int .u8 0)) (hsize : i.size = 1) (hby : i.bytes = 1)
    (v : Value) (n : Nat) (xs : List Value) (hs : a.eval sl = v) (hown : w.ownsRow base e 1 v n xs) (M : Int) (m : Nat) (hx : a.eval x = .int .i64 M)
    (h : ∀ v' w', w'.ownsRow base e 1 v' (n + m) (xs ++ List.replicate m (.int .u8 0)) → Below base w w' → Hid (w.grownBy w' v.ownBlock) → wpList P ops Q rest (a.put o.dst v') w')
    (hM : Hid (M = (m : Int))) (h0 : Hid (0 < n)) (h63 : Hid (n + m ≤ 140737488355328)) (hbase : Hid (base ≤ w.heap.size)) : wpList P ops Q (o :: rest) a w := by
  refine wpList_plain hgd fun K hK => ?_
  obtain ⟨v', w', hrun, h2, h3⟩ := run_append_zeros (P := P) w base t u o.type e i ik ht hu hi hz hsize hby v n xs hown m h0.out h63.out hbase.out
  rw [hM.out] at hx
  unfold Oper.wp execOp
  simp only [ho, resolve, invoke, builtin, Sem.run_bind, Sem.run_pure, Result.andThen_ok, List.map_toArray, List.map_cons, List.map_nil, hs, hx, hrun]
  exact hK _ _ (h v' w' h2 ((Below.refl _ _).grown h3 hbase.out (fun k hk => (hown.lt k hk).1)) (hid h3))
end Go.Proofs.YtdimlfjepliflaaGreatDoor
/-
  Plain words on headers: their numbers, their bytes, the table of places, as lists.
-/
namespace Go.Proofs.YtdimlfjepliflaaGreatDoor
open Go.RowKit

/-- a header's numbers -/
structure Hd where
  kind : Int
  frm : Int
  oper : Int
  view : Int
  opn : Int
  commit : Int
  client : Int
  session : Int
  request : Int
  a : Int
  b : Int
  parent : Nat
deriving DecidableEq
def Hd.cells (h : Hd) : Array Value := #[.int .i64 h.kind, .int .i64 h.frm, .int .i64 h.oper, .int .i64 h.view, .int .i64 h.opn, .int .i64 h.commit, .int .i64 h.client, .int .i64 h.session, .int .i64 h.request, .int .i64 h.a, .int .i64 h.b, .int .u64 (h.parent : Int)]
def Hd.val (h : Hd) : Value := .agg h.cells
def In64 (x : Int) : Prop := -9223372036854775808 ≤ x ∧ x ≤ 9223372036854775807
/-- a header of the machine's -/
def Hd.fits (h : Hd) : Prop := (In64 h.kind ∧ In64 h.frm ∧ In64 h.oper ∧ In64 h.view ∧ In64 h.opn ∧ In64 h.commit) ∧ (In64 h.client ∧ In64 h.session ∧ In64 h.request ∧ In64 h.a ∧ In64 h.b) ∧ h.parent < 18446744073709551616
/-- an int's bits as a number -/
def un (x : Int) : Nat := (IntKind.u64.wrap x).toNat
theorem un_wrap (x : Int) : IntKind.u64.wrap x = ((un x : Nat) : Int) := by
  unfold un
  have : 0 ≤ IntKind.u64.wrap x := by rw [IntKind.wrap_u64]; omega
  omega
theorem un_eq (x : Int) : ((un x : Nat) : Int) = x % 18446744073709551616 := by rw [← un_wrap, IntKind.wrap_u64]
theorem un_lt (x : Int) : un x < 18446744073709551616 := by have := un_eq x; omega
def Hd.nums (h : Hd) : List Nat := [0, un h.kind, un h.frm, un h.oper, 0, 0, h.parent, un h.view, un h.opn, un h.commit, un h.client, un h.session, un h.request, un h.a, un h.b]
theorem nums_len (h : Hd) : h.nums.length = 15 := rfl
def av (l : List Nat) : List Value := l.map fun (n : Nat) => .int .u64 (n : Int)
theorem av_get (l : List Nat) (k : Nat) (h : k < l.length) : (av l)[k]? = some (.int .u64 ((l[k] : Nat) : Int)) := by simp [av, h]
theorem av_set (l : List Nat) (k n : Nat) : (av l).set k (.int .u64 (n : Int)) = av (l.set k n) := by simp [av, List.map_set]
theorem av_one (l : List Nat) : ∀ u ∈ av l, u.oneCell' = true := by
  intro u hu
  simp only [av, List.mem_map] at hu
  obtain ⟨b, _, rfl⟩ := hu
  rfl
/-- the table: bytes and the greatest number of each place -/
def sizes : List Nat := [4, 1, 1, 1, 1, 4, 8, 8, 8, 8, 8, 8, 8, 8, 8]
def mosts : List Nat := [4294967295, 255, 255, 255, 0, 4294967295, 18446744073709551615, 72057594037927935, 72057594037927935, 72057594037927935, 72057594037927935, 72057594037927935, 72057594037927935, 72057594037927935, 72057594037927935]
def fcells : List Value := [.int .i64 4, .int .u64 4294967295, .int .i64 1, .int .u64 255, .int .i64 1, .int .u64 255, .int .i64 1, .int .u64 255, .int .i64 1, .int .u64 0, .int .i64 4, .int .u64 4294967295, .int .i64 8, .int .u64 18446744073709551615, .int .i64 8, .int .u64 72057594037927935, .int .i64 8, .int .u64 72057594037927935, .int .i64 8, .int .u64 72057594037927935, .int .i64 8, .int .u64 72057594037927935, .int .i64 8, .int .u64 72057594037927935, .int .i64 8, .int .u64 72057594037927935, .int .i64 8, .int .u64 72057594037927935, .int .i64 8, .int .u64 72057594037927935]
def sz (k : Nat) : Nat := sizes.getD k 0
def mo (k : Nat) : Nat := mosts.getD k 0
theorem sz_lo : ∀ k, k < 15 → 1 ≤ sz k ∧ sz k ≤ 8 := by decide
theorem mo_lt : ∀ k, k < 15 → mo k < 2 ^ (8 * sz k) := by decide
theorem fcell_sz : ∀ k, k < 15 → fcells[k * 2]? = some (.int .i64 (sz k : Nat)) := by
  intro k hk
  match k, hk with
  | 0, _ | 1, _ | 2, _ | 3, _ | 4, _ | 5, _ | 6, _ | 7, _ | 8, _ | 9, _ | 10, _ | 11, _ | 12, _ | 13, _ | 14, _ => rfl
theorem fcell_mo : ∀ k, k < 15 → fcells[k * 2 + 1]? = some (.int .u64 (mo k : Nat)) := by
  intro k hk
  match k, hk with
  | 0, _ | 1, _ | 2, _ | 3, _ | 4, _ | 5, _ | 6, _ | 7, _ | 8, _ | 9, _ | 10, _ | 11, _ | 12, _ | 13, _ | 14, _ => rfl
/-- the table lies where its initialiser laid it -/
def Fd (w : World) : Prop := 1 ≤ w.heap.size ∧ Rd w 1 (some ⟨0, 0, none⟩) fcells
theorem Fd.below {w w' : World} {B : Nat} (h : Fd w) (hb : Below B w w') (hB : 1 ≤ B) : Fd w' :=
  ⟨Nat.le_trans h.1 hb.size, h.2.below hb hB⟩
theorem Fd.size {w : World} {k : Nat} (h : Fd w) (hk : k < 15) : w.cell? ⟨0, k * 2, none⟩ = some (.int .i64 (sz k : Nat)) := by
  obtain ⟨g, o, e, _, hc⟩ := h.2 (by simp [fcells])
  cases e
  simpa using hc _ _ (fcell_sz k hk)
theorem Fd.most {w : World} {k : Nat} (h : Fd w) (hk : k < 15) : w.cell? ⟨0, k * 2 + 1, none⟩ = some (.int .u64 (mo k : Nat)) := by
  obtain ⟨g, o, e, _, hc⟩ := h.2 (by simp [fcells])
  cases e
  simpa using hc _ _ (fcell_mo k hk)
/-- do the numbers fit? -/
def Fits (l : List Nat) : Prop := l.length = 15 ∧ ∀ k (h : k < l.length), l[k] ≤ mo k
instance (l : List Nat) : Decidable (Fits l) := by unfold Fits; infer_instance
/-- the bytes of the first k numbers -/
def fl (l : List Nat) : Nat → List UInt8
  | 0 => []
  | k + 1 => fl l k ++ le (l.getD k 0) (sz k)
def off : Nat → Nat
  | 0 => 0
  | k + 1 => off k + sz k
theorem fl_len (l : List Nat) : ∀ k, (fl l k).length = off k
  | 0 => rfl
  | k + 1 => by simp [fl, off, fl_len l k, le_len]
theorem off_le : ∀ k, k ≤ 15 → off k ≤ 84 := by decide
theorem off_15 : off 15 = 84 := by decide
/-- the bytes behind the sum -/
def restS (l : List Nat) : List UInt8 := fl l 15 ++ List.replicate 40 0
theorem restS_len (l : List Nat) : (restS l).length = 124 := by simp [restS, fl_len, off_15]
def sumS (l : List UInt8) : List UInt8 := le (addS 0#32 l).toNat 4
theorem sumS_len (l : List UInt8) : (sumS l).length = 4 := le_len _ _
/-- a header's bytes -/
def headB (l : List Nat) : List UInt8 := sumS (restS l) ++ restS l
theorem headB_len (l : List Nat) : (headB l).length = 128 := by simp [headB, sumS_len, restS_len]
/-- the numbers with the body's -/
def full (h : Hd) (body : List UInt8) : List Nat := (h.nums.set 0 (addS 0#32 body).toNat).set 5 body.length
theorem full_len (h : Hd) (body : List UInt8) : (full h body).length = 15 := by simp [full, nums_len]
/-- what Pack answers -/
def packS (h : Hd) (body : List UInt8) : List UInt8 × Int :=
  if ¬ Fits h.nums then ([], 4) else if 3968 < body.length then ([], 5) else (headB (full h body) ++ body, 0)
/-- a number's bits as an int -/
def sg (n : Nat) : Int := wrap64 (n : Int)
def hd0 : Hd := ⟨0, 0, 0, 0, 0, 0, 0, 0, 0, 0, 0, 0⟩
end Go.Proofs.YtdimlfjepliflaaGreatDoor
