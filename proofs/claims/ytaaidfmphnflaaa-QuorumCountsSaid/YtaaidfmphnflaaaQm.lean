/-
  Plain words of chapter 16: counts, leaders, sets of replicas as numbers below 32.
-/
import Derived.Test.YtaaidfmphnflaaaLift
namespace Go.Proofs.Ytaaidfmphnflaaa
open Go.RowKit

/-- the part of a number below 32 -/
def bitsQ (s : Int) : Nat := (s % 32).toNat
/-- a replica's worth; 0: no such one -/
def worthQ (k : Int) : Nat := if 1 ≤ k ∧ k ≤ 5 then 2 ^ (k - 1).toNat else 0
def mayQ (c : Int) : Bool := c == 3 || c == 5
def enoughQ (c : Int) : Int := if c = 3 then 2 else if c = 5 then 3 else 0
def primQ (c v : Int) : Int := if mayQ c = true ∧ 0 ≤ v then v % c + 1 else 0
/-- has a number below 32 a worth? -/
def hasN (m w : Nat) : Bool := (m &&& w) != 0
def hasQ (s k : Int) : Bool := hasN (bitsQ s) (worthQ k)
def withQ (s k : Int) : Nat := bitsQ s ||| worthQ k
def sizeN (m : Nat) : Nat := m % 2 + m / 2 % 2 + m / 4 % 2 + m / 8 % 2 + m / 16 % 2
def sizeQ (s : Int) : Nat := sizeN (bitsQ s)

theorem bitsQ_lt (s : Int) : bitsQ s < 32 := by unfold bitsQ; omega
theorem bitsQ_nat {m : Nat} (h : m < 32) : bitsQ (m : Int) = m := by unfold bitsQ; omega
theorem worthQ_cases (k : Int) : worthQ k = 0 ∨ worthQ k = 1 ∨ worthQ k = 2 ∨ worthQ k = 4 ∨ worthQ k = 8 ∨ worthQ k = 16 := by
  unfold worthQ
  by_cases h : 1 ≤ k ∧ k ≤ 5
  · rw [if_pos h]
    have : k = 1 ∨ k = 2 ∨ k = 3 ∨ k = 4 ∨ k = 5 := by omega
    rcases this with rfl | rfl | rfl | rfl | rfl <;> decide
  · rw [if_neg h]; exact .inl rfl
theorem worthQ_lt (k : Int) : worthQ k < 32 := by
  rcases worthQ_cases k with h | h | h | h | h | h <;> omega

/-- and, or of what an int64 holds, as its bits below 32 -/
theorem ofInt_mod (s : Int) : (BitVec.ofInt 64 s).toNat % 32 = bitsQ s := by
  rw [BitVec.toNat_ofInt]
  unfold bitsQ
  omega
theorem wrap_i64_small (n : Nat) (h : n < 9223372036854775808) : IntKind.i64.wrap (n : Int) = n := by
  simp [IntKind.wrap, IntKind.bits, IntKind.signed]; omega
theorem ofInt_wrap (x : BitVec 64) : BitVec.ofInt 64 (IntKind.i64.wrap (x.toNat : Int)) = x := by
  apply BitVec.eq_of_toNat_eq
  have := x.isLt
  rw [BitVec.toNat_ofInt]
  simp [IntKind.wrap, IntKind.bits, IntKind.signed]
  omega
theorem ofInt_nat (m : Nat) (h : m < 32) : (BitVec.ofInt 64 (m : Int)).toNat = m := by
  rw [BitVec.ofInt_natCast, BitVec.toNat_ofNat]
  omega
theorem and_lt32 {x y : Nat} (h : y < 32) : x &&& y < 32 := Nat.and_lt_two_pow x (n := 5) h
theorem and_i64 (s : Int) (w : Nat) (h : w < 32) : bits .and .i64 s (w : Int) = ((bitsQ s &&& w : Nat) : Int) := by
  show IntKind.i64.wrap ((BitVec.ofInt 64 s &&& BitVec.ofInt 64 (w : Int)).toNat : Int) = _
  rw [BitVec.toNat_and, ofInt_nat w h, ← ofInt_mod]
  have h1 := and_lt32 (x := (BitVec.ofInt 64 s).toNat) h
  rw [wrap_i64_small _ (by omega)]
  congr 1
  have h2 : w = w % 2 ^ 5 := by omega
  have h3 : (BitVec.ofInt 64 s).toNat % 32 = (BitVec.ofInt 64 s).toNat % 2 ^ 5 := rfl
  rw [h3]
  apply Nat.eq_of_testBit_eq
  intro i
  rw [Nat.testBit_and, Nat.testBit_and, Nat.testBit_mod_two_pow]
  by_cases hi : i < 5
  · simp [hi]
  · rw [h2, Nat.testBit_mod_two_pow]; simp [hi]
theorem and31 (m : Nat) : m &&& 31 = m % 32 := by
  have := Nat.and_two_pow_sub_one_eq_mod m 5
  simpa using this
theorem and_31 (s : Int) : bits .and .i64 s 31 = (bitsQ s : Int) := by
  have h := and_i64 s 31 (by omega)
  rw [and31] at h
  have := bitsQ_lt s
  rw [show bitsQ s % 32 = bitsQ s by omega] at h
  exact h
theorem with_i64 (s : Int) (w : Nat) (h : w < 32) : bits .and .i64 (bits .or .i64 s (w : Int)) 31 = ((bitsQ s ||| w : Nat) : Int) := by
  show IntKind.i64.wrap ((BitVec.ofInt 64 (IntKind.i64.wrap ((BitVec.ofInt 64 s ||| BitVec.ofInt 64 (w : Int)).toNat : Int)) &&& BitVec.ofInt 64 ((31 : Nat) : Int)).toNat : Int) = _
  rw [ofInt_wrap, BitVec.toNat_and, ofInt_nat 31 (by omega), BitVec.toNat_or, ofInt_nat w h, and31, ← ofInt_mod]
  rw [wrap_i64_small _ (by omega)]
  congr 1
  have h3 : ∀ n : Nat, n % 32 = n % 2 ^ 5 := fun _ => rfl
  rw [h3, h3, Nat.or_mod_two_pow, Nat.mod_eq_of_lt (a := w) (by omega)]
theorem tmod32 (s : Int) : (if s.tmod 32 < 0 then s.tmod 32 + 32 else s.tmod 32) = (bitsQ s : Int) := by
  unfold bitsQ
  rcases Int.lt_or_le s 0 with h | h
  · have e : s.tmod 32 = -((-s) % 32) := by
      rw [← Int.tmod_eq_emod_of_nonneg (a := -s) (by omega), Int.neg_tmod, Int.neg_neg]
    rw [e]
    split <;> omega
  · rw [Int.tmod_eq_emod_of_nonneg h]
    split <;> omega
