/-
  DiskRots, at every input.
-/
import Derived.Test.YtcnokhjehiamlaaRotsok
namespace Go.Proofs.Ytcnokhjehiamlaa
open Go.RowKit
theorem rots_calls (c o : UInt8) (i a m : Int) (off : Bool) (w : World) :
    Calls Try.prog 8 #[.int .u8 (c.toNat : Int), .int .u8 (o.toNat : Int), .int .i64 i, .int .i64 a, .int .i64 m, .bool off] w (YF w) := by
  by_cases h : i < 0 ∨ 2 < i ∨ a < 0 ∨ 384 ≤ a ∨ m < 1 ∨ 255 < m
  · exact rots_bad c o i a m off w h
  · by_cases h2 : i = 2
    · subst h2
      exact rots_two c o a m off w (by omega)
    · obtain ⟨k, rfl⟩ := Int.eq_ofNat_of_zero_le (show 0 ≤ i by omega)
      obtain ⟨a', rfl⟩ := Int.eq_ofNat_of_zero_le (show 0 ≤ a by omega)
      obtain ⟨m', rfl⟩ := Int.eq_ofNat_of_zero_le (show 0 ≤ m by omega)
      exact rots_ok c o k a' m' off w (by omega) ⟨by omega, by omega, by omega⟩
end Go.Proofs.Ytcnokhjehiamlaa
