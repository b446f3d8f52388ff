/-
  Plain words on registers and chains: the step, eight of them, and why sums tell four neighbouring bytes apart.
-/
import Derived.Laws.Entries
import Derived.IntWalk
namespace Go.Proofs.YteahbalcielhpaaDoor

/-! ### numbers as the walk has them -/
theorem wrap_u32_nat (n : Nat) (h : n < 2 ^ 32) : IntKind.u32.wrap (n : Int) = n := by
  simp [IntKind.wrap, IntKind.bits, IntKind.signed]; omega
theorem wrap_u64_nat (n : Nat) (h : n < 2 ^ 64) : IntKind.u64.wrap (n : Int) = n := by
  simp [IntKind.wrap, IntKind.bits, IntKind.signed]; omega
theorem wrap_u8_nat (n : Nat) (h : n < 2 ^ 8) : IntKind.u8.wrap (n : Int) = n := by
  simp [IntKind.wrap, IntKind.bits, IntKind.signed]; omega
theorem xor32 (x y : BitVec 32) : bits .xor .u32 (x.toNat : Int) (y.toNat : Int) = ((x ^^^ y).toNat : Int) := by
  have e : ∀ z : BitVec 32, BitVec.ofInt IntKind.u32.bits (z.toNat : Int) = z := fun z => by
    show BitVec.ofInt 32 (z.toNat : Int) = z
    rw [BitVec.ofInt_natCast]; simp
  show IntKind.u32.wrap ((BitVec.ofInt IntKind.u32.bits (x.toNat : Int) ^^^ BitVec.ofInt IntKind.u32.bits (y.toNat : Int)).toNat : Int) = _
  rw [e, e]
  exact wrap_u32_nat _ (BitVec.isLt _)
theorem xor64 (x y : BitVec 64) : bits .xor .u64 (x.toNat : Int) (y.toNat : Int) = ((x ^^^ y).toNat : Int) := by
  have e : ∀ z : BitVec 64, BitVec.ofInt IntKind.u64.bits (z.toNat : Int) = z := fun z => by
    show BitVec.ofInt 64 (z.toNat : Int) = z
    rw [BitVec.ofInt_natCast]; simp
  show IntKind.u64.wrap ((BitVec.ofInt IntKind.u64.bits (x.toNat : Int) ^^^ BitVec.ofInt IntKind.u64.bits (y.toNat : Int)).toNat : Int) = _
  rw [e, e]
  exact wrap_u64_nat _ (BitVec.isLt _)
theorem xor8 (x y : BitVec 8) : bits .xor .u8 (x.toNat : Int) (y.toNat : Int) = ((x ^^^ y).toNat : Int) := by
  have e : ∀ z : BitVec 8, BitVec.ofInt IntKind.u8.bits (z.toNat : Int) = z := fun z => by
    show BitVec.ofInt 8 (z.toNat : Int) = z
    rw [BitVec.ofInt_natCast]; simp
  show IntKind.u8.wrap ((BitVec.ofInt IntKind.u8.bits (x.toNat : Int) ^^^ BitVec.ofInt IntKind.u8.bits (y.toNat : Int)).toNat : Int) = _
  rw [e, e]
  exact wrap_u8_nat _ (BitVec.isLt _)
/-! ### the register -/
def poly : BitVec 32 := 2197175160#32
/-- one step -/
def rs (x : BitVec 32) : BitVec 32 := (x >>> 1) ^^^ (if x.getLsbD 0 then poly else 0#32)
/-- so many -/
def rsn : Nat → BitVec 32 → BitVec 32
  | 0, x => x
  | k + 1, x => rs (rsn k x)
/-- by a byte -/
def byStep (r : BitVec 32) (c : UInt8) : BitVec 32 := rsn 8 (r ^^^ c.toBitVec.setWidth 32)
def byAll (r : BitVec 32) (l : List UInt8) : BitVec 32 := l.foldl byStep r
theorem half32 (x : BitVec 32) : ((x.toNat : Int) / (2 : Int)) = ((x >>> 1).toNat : Int) := by
  simp [BitVec.toNat_ushiftRight, Nat.shiftRight_eq_div_pow]
theorem lsb_mod (x : BitVec 32) : x.getLsbD 0 = decide (x.toNat % 2 = 1) := by
  rw [BitVec.getLsbD, Nat.testBit_zero]
theorem and_one (x : BitVec 32) : bits .and .u32 (x.toNat : Int) 1 = ((x.toNat % 2 : Nat) : Int) := by
  have e : BitVec.ofInt IntKind.u32.bits (x.toNat : Int) = x := by
    show BitVec.ofInt 32 (x.toNat : Int) = x
    rw [BitVec.ofInt_natCast]; simp
  have e1 : BitVec.ofInt IntKind.u32.bits 1 = 1#32 := rfl
  show IntKind.u32.wrap ((BitVec.ofInt IntKind.u32.bits (x.toNat : Int) &&& BitVec.ofInt IntKind.u32.bits 1).toNat : Int) = _
  rw [e, e1]
  have h : (x &&& 1#32).toNat = x.toNat % 2 := by
    rw [BitVec.toNat_and]
    show x.toNat &&& 1 = _
    rw [Nat.and_one_is_mod]
  show IntKind.u32.wrap (((x &&& 1#32).toNat : Nat) : Int) = _
  rw [h]
  exact wrap_u32_nat _ (by omega)
/-- the code's step -/
theorem rs_code (x : BitVec 32) :
    bits .xor .u32 ((x.toNat : Int) / 2) (bits .and .u32 2197175160 (-bits .and .u32 (x.toNat : Int) 1 % 4294967296)) = ((rs x).toNat : Int) := by
  rw [and_one, half32, rs, lsb_mod]
  rcases Nat.mod_two_eq_zero_or_one x.toNat with h | h
  · rw [h]
    have e : bits .and .u32 2197175160 (-((0 : Nat) : Int) % 4294967296) = ((0#32 : BitVec 32).toNat : Int) := by decide +kernel
    rw [e, xor32]
    simp
  · rw [h]
    have e : bits .and .u32 2197175160 (-((1 : Nat) : Int) % 4294967296) = (poly.toNat : Int) := by decide +kernel
    rw [e, xor32]
    simp
theorem rs_xor (x y : BitVec 32) : rs (x ^^^ y) = rs x ^^^ rs y := by
  unfold rs
  rw [BitVec.ushiftRight_xor_distrib, BitVec.getLsbD_xor]
  cases x.getLsbD 0 <;> cases y.getLsbD 0 <;> simp
  · rw [BitVec.xor_assoc]
  · rw [BitVec.xor_assoc, BitVec.xor_assoc, BitVec.xor_comm poly]
  · rw [BitVec.xor_assoc (x >>> 1) poly, ← BitVec.xor_assoc poly, BitVec.xor_comm poly, BitVec.xor_assoc (y >>> 1), BitVec.xor_self, BitVec.xor_zero]
theorem rsn_xor : ∀ (k : Nat) (x y : BitVec 32), rsn k (x ^^^ y) = rsn k x ^^^ rsn k y
  | 0, _, _ => rfl
  | k + 1, x, y => by rw [rsn, rsn_xor k, rs_xor]; rfl
/-- a register whose lowest k bits are none just moves down -/
theorem rsn_low : ∀ (k : Nat) (x : BitVec 32), (∀ i < k, x.getLsbD i = false) → rsn k x = x >>> k
  | 0, x, _ => by simp [rsn]
  | k + 1, x, h => by
    rw [rsn, rsn_low k x (fun i hi => h i (by omega)), rs, BitVec.getLsbD_ushiftRight, h (k + 0) (by omega)]
    rw [BitVec.shiftRight_add]
    simp
theorem byAll_app (r : BitVec 32) (a b : List UInt8) : byAll r (a ++ b) = byAll (byAll r a) b := by simp [byAll]
/-- the table's way: the lowest byte by the table, the rest moves down -/
theorem byStep_table (r : BitVec 32) (c : UInt8) : (r >>> 8) ^^^ rsn 8 ((r.setWidth 8 ^^^ c.toBitVec).setWidth 32) = byStep r c := by
  have h1 : r = ((r >>> 8) <<< 8) ^^^ (r.setWidth 8).setWidth 32 := by
    apply BitVec.eq_of_getLsbD_eq
    intro i hi
    rw [BitVec.getLsbD_xor, BitVec.getLsbD_shiftLeft, BitVec.getLsbD_ushiftRight, BitVec.getLsbD_setWidth, BitVec.getLsbD_setWidth]
    by_cases h8 : i < 8
    · simp [hi, h8]
    · simp [hi, h8, show 8 + (i - 8) = i by omega]
  have h2 : rsn 8 ((r >>> 8) <<< 8) = r >>> 8 := by
    rw [rsn_low 8 _ (fun i hi => by simp [hi])]
    apply BitVec.eq_of_getLsbD_eq
    intro i hi
    simp only [BitVec.getLsbD_ushiftRight, BitVec.getLsbD_shiftLeft]
    by_cases h : 8 + i < 32
    · simp [h]
    · simp [h]; exact (BitVec.getLsbD_of_ge r (8 + i) (by omega))
  have h3 : (r.setWidth 8 ^^^ c.toBitVec).setWidth 32 = (r.setWidth 8).setWidth 32 ^^^ c.toBitVec.setWidth 32 := by
    rw [BitVec.setWidth_xor]
  rw [byStep]
  conv => rhs; rw [h1]
  rw [BitVec.xor_assoc, rsn_xor, h2, h3]
theorem idx_code (r : BitVec 32) (b : UInt8) : bits .xor .u8 ((r.toNat : Int) % 256) (b.toNat : Int) = ((r.setWidth 8 ^^^ b.toBitVec).toNat : Int) := by
  have e : ((r.toNat : Int) % 256) = ((r.setWidth 8).toNat : Int) := by rw [BitVec.toNat_setWidth]; rfl
  rw [e]
  exact xor8 _ _
theorem tab_code (r : BitVec 32) (b : UInt8) :
    bits .xor .u32 ((r.toNat : Int) / 256) ((rsn 8 (BitVec.ofNat 32 (r.setWidth 8 ^^^ b.toBitVec).toNat)).toNat : Int) = ((byStep r b).toNat : Int) := by
  have e : ((r.toNat : Int) / (256 : Int)) = ((r >>> 8).toNat : Int) := by
    rw [BitVec.toNat_ushiftRight, Nat.shiftRight_eq_div_pow]
    rfl
  rw [e, xor32, ← byStep_table, BitVec.ofNat_toNat]
theorem not_code (x : BitVec 32) : bits .xor .u32 4294967295 (x.toNat : Int) = ((~~~x).toNat : Int) := by
  have e : (4294967295 : Int) = ((BitVec.allOnes 32).toNat : Int) := rfl
  rw [e, xor32, BitVec.allOnes_xor]
/-! ### four neighbouring bytes -/
/-! ### the chain -/
def fac : BitVec 64 := 1099511628211#64
def orig : BitVec 64 := 14695981039346656037#64
def linkStep (h : BitVec 64) (c : UInt8) : BitVec 64 :=
  ((h ^^^ c.toBitVec.setWidth 64) * fac) ^^^ (((h ^^^ c.toBitVec.setWidth 64) * fac) >>> 29)
/-- eight bytes of a length -/
def long8 (n : Nat) : List UInt8 := (List.range 8).map fun i => UInt8.ofNat (n / 2 ^ (8 * i))
def chainOf (h : BitVec 64) (l : List UInt8) : BitVec 64 := (l ++ long8 l.length).foldl linkStep (h ^^^ orig)
theorem mul_code (x : BitVec 64) (m : Nat) : IntKind.u64.wrap ((x.toNat : Int) * (m : Int)) = ((x * BitVec.ofNat 64 m).toNat : Int) := by
  rw [BitVec.toNat_mul, BitVec.toNat_ofNat, Nat.mul_mod_mod]
  show (x.toNat : Int) * (m : Int) % 2 ^ 64 = _
  rw [← Int.natCast_mul]
  rfl
theorem div_code (x : BitVec 64) : ((x.toNat : Int) / (536870912 : Int)) = ((x >>> 29).toNat : Int) := by
  rw [BitVec.toNat_ushiftRight, Nat.shiftRight_eq_div_pow]
  rfl
theorem byte_up (c : UInt8) : ((c.toNat : Nat) : Int) = ((c.toBitVec.setWidth 64).toNat : Int) := by
  rw [BitVec.toNat_setWidth, Nat.mod_eq_of_lt]
  · rfl
  · have : c.toBitVec.toNat < 2 ^ 8 := c.toBitVec.isLt
    omega
/-- the step as the walk has it -/
theorem link_code (h : BitVec 64) (c : UInt8) :
    bits .xor .u64 (IntKind.u64.wrap (bits .xor .u64 (h.toNat : Int) (c.toNat : Int) * 1099511628211)) (IntKind.u64.wrap (bits .xor .u64 (h.toNat : Int) (c.toNat : Int) * 1099511628211) / 536870912)
      = ((linkStep h c).toNat : Int) := by
  have e : (1099511628211 : Int) = ((1099511628211 : Nat) : Int) := rfl
  rw [byte_up, xor64, e, mul_code, div_code, xor64]
  rfl
end Go.Proofs.YteahbalcielhpaaDoor
