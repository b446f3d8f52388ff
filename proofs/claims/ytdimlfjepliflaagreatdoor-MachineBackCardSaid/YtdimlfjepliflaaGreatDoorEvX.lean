/-
  Plain words on events: accounts, transfers and ids as cells and as bytes; lists of them.
-/
import Derived.Test.YtdimlfjepliflaaGreatDoorD05
import Derived.Test.YtdimlfjepliflaaGreatDoorD03
import Derived.Test.YtdimlfjepliflaaGreatDoorD04
namespace Go.Proofs.YtdimlfjepliflaaGreatDoor
open Go.RowKit

section
variable {α : Type} {C : α → List Value} {n : Nat}
end
/-! ### as bytes -/
def wholeS (s : List UInt8) : Ac × Bool := if s.length = 25 then (decW s, true) else (ac0, false)
theorem flag_back (f : Int) (h : 0 ≤ f ∧ f ≤ 255) : ((UInt8.ofNat f.toNat).toNat : Int) = f := by
  rw [UInt8.toNat_ofNat']
  omega
theorem decW_le (x : Ac) (h : x.ok) (hf : 0 ≤ x.flags ∧ x.flags ≤ 255) : wholeS (wholeB x).1 = (x, true) := by
  obtain ⟨a, b, c, d⟩ := x
  obtain ⟨h1, _, h3, h4⟩ := h
  have e : (wholeB ⟨a, b, c, d⟩).1 = le a 8 ++ [UInt8.ofNat b.toNat] ++ le c 8 ++ le d 8 := by unfold wholeB; rw [if_pos hf]
  rw [e]
  have e1 : at8 (le a 8 ++ [UInt8.ofNat b.toNat] ++ le c 8 ++ le d 8) 0 = a := by rw [List.append_assoc, List.append_assoc]; exact at8_le a _ h1
  have e2 : (le a 8 ++ [UInt8.ofNat b.toNat] ++ le c 8 ++ le d 8).getD 8 0 = UInt8.ofNat b.toNat := by
    rw [List.append_assoc, List.append_assoc, List.getD, List.getElem?_append_right (by rw [le_len]; omega), le_len]
    rfl
  have e3 : at8 (le a 8 ++ [UInt8.ofNat b.toNat] ++ le c 8 ++ le d 8) 9 = c := by
    rw [List.append_assoc (le a 8 ++ _)]
    exact (at8_drop (le a 8 ++ [UInt8.ofNat b.toNat]) (le c 8 ++ le d 8) 0 9 (by rw [List.length_append, le_len]; rfl)).trans (at8_le c _ h3)
  have e4 : at8 (le a 8 ++ [UInt8.ofNat b.toNat] ++ le c 8 ++ le d 8) 17 = d := by
    refine (at8_drop (le a 8 ++ [UInt8.ofNat b.toNat] ++ le c 8) (le d 8) 0 17 (by rw [List.length_append, List.length_append, le_len, le_len]; rfl)).trans ?_
    have := at8_le d [] h4
    rwa [List.append_nil] at this
  unfold wholeS decW
  rw [if_pos (by rw [List.length_append, List.length_append, List.length_append, le_len, le_len, le_len]; rfl), e1, e2, e3, e4, flag_back _ hf]
end Go.Proofs.YtdimlfjepliflaaGreatDoor
