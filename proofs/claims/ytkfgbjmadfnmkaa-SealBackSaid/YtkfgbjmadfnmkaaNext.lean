/-
  The walks of package seal's next and Seal, and of the document's Seal.
-/
import Derived.Test.YtkfgbjmadfnmkaaWith
namespace Go.Proofs.Ytkfgbjmadfnmkaa
open Go.RowKit
set_option maxRecDepth 10000

/-- the guard behind the one at the end -/
def nextS (old : List UInt8) : UInt8 := if old.length = 0 then 1 else old.getD (old.length - 1) 0 + 1
/-- what Seal answers -/
def sealS (old s : List UInt8) : List UInt8 × Int := if 376 < s.length then ([], 5) else (layS (nextS old) s, 0)
/-- a text and an error's number -/
def SN (w : World) (r : List UInt8 × Int) (e : Ending) (w' : World) : Prop :=
  e = .returned (.tuple #[.string ⟨r.1.toArray⟩, .int .i64 r.2]) ∧ Below w.heap.size w w'

theorem empty_of {s : ByteArray} (h : s.size = 0) : s = ⟨#[]⟩ := by
  rcases s with ⟨d⟩
  have : d.size = 0 := h
  rw [Array.size_eq_zero_iff.1 this]
theorem full_of {s : ByteArray} (h : ¬ s.size = 0) : s.toList.isEmpty = false := by
  rw [ByteArray.toList_eq]
  cases hl : s.data.toList with
  | nil => exact absurd (show s.size = 0 by rw [← sb_len, sb, hl]; rfl) h
  | cons _ _ => rfl
theorem last_of (s : ByteArray) (h : 0 < s.size) : nextS (sb s) = s[s.size - 1]'(by omega) + 1 := by
  unfold nextS
  rw [if_neg (by rw [sb_len]; omega), sb_len, List.getD, List.getElem?_eq_getElem (by rw [sb_len]; omega)]
  rfl
theorem u8_next (c : UInt8) : ((c.toNat : Int) + 1) % 256 = (((c + 1).toNat : Nat) : Int) := by
  rw [UInt8.toNat_add]
  simp

theorem next_calls (old : ByteArray) (w : World) (hold : old.size ≤ 1125899906842624) :
    Calls Try.prog 45 #[.string old] w fun e w' => e = .returned (.int .u8 ((nextS (sb old)).toNat : Int)) ∧ w = w' := by
  by_cases h : old.size = 0
  · obtain rfl := empty_of h
    go_enter Try.func45, Try.ntmps45
    go_wp2_with fail
    go_ret
    exact ⟨rfl, rfl⟩
  · have hl := last_of old (by omega)
    have hne := full_of h
    have hlt : old.size - 1 < old.size := by omega
    have hu := u8_next (old[old.size - 1]'hlt)
    have h8 := UInt8.toNat_lt (old[old.size - 1]'hlt)
    have HL := hid hl
    have HU := hid hu
    clear hl hu
    go_enter Try.func45, Try.ntmps45
    go_wp2_with fail
    go_ret
    exact ⟨by rw [HL.out]; exact ret_int HU.out, rfl⟩

set_option maxHeartbeats 400000 in
theorem seal_calls (old s : ByteArray) (w : World) (hold : old.size ≤ 1125899906842624) :
    Calls Try.prog 23 #[.string old, .string s] w (SN w (sealS (sb old) (sb s))) := by
  unfold sealS
  rw [sb_len]
  by_cases h : 376 < s.size
  · rw [if_pos h]
    have hI : (376 : Int) < s.size := by omega
    go_enter Try.func23, Try.ntmps23
    go_wp2_with fail
    go_ret2
    exact ⟨rfl, Below.refl _ _⟩
  · rw [if_neg h]
    have hI : (s.size : Int) ≤ 376 := by omega
    have H1 := hid (next_calls old w hold)
    have H2 := hid (lay_calls (nextS (sb old)) s (by omega) w)
    clear h
    go_enter Try.func23, Try.ntmps23
    go_wp2_with (first
      | (go_at_call 45; refine H1.out.mono ?_; rintro e w1 ⟨rfl, rfl⟩)
      | (go_at_call 44; refine H2.out.mono ?_; rintro e w2 ⟨rfl, hb2⟩))
    go_ret2
    exact ⟨rfl, hb2⟩

set_option maxHeartbeats 400000 in
theorem rseal_calls (old s : ByteArray) (w : World) (hold : old.size ≤ 1125899906842624) :
    Calls Try.prog 24 #[.string old, .string s] w (SN w (sealS (sb old) (sb s))) := by
  unfold sealS
  rw [sb_len]
  by_cases h : 376 < s.size
  · rw [if_pos h]
    have hI : (376 : Int) < s.size := by omega
    go_enter Try.func24, Try.ntmps24
    go_wp2_with fail
    go_ret2
    exact ⟨rfl, Below.refl _ _⟩
  · rw [if_neg h]
    have hI : (s.size : Int) ≤ 376 := by omega
    have H2 := hid (with_calls (nextS (sb old)) s (by omega) w)
    clear h
    by_cases h : old.size = 0
    · obtain rfl := empty_of h
      have HO : Hid (((nextS (sb ⟨#[]⟩)).toNat : Int) = 1) := hid rfl
      have H3 : Hid (Calls Try.prog 46 #[.int .u8 1, .string s] w (SE w (layS (nextS (sb ⟨#[]⟩)) (sb s)))) := hid (by have := H2.out; rwa [HO.out] at this)
      go_enter Try.func24, Try.ntmps24
      go_wp2_with (go_at_call 46; refine H3.out.mono ?_; rintro e w2 ⟨rfl, hb2⟩)
      go_ret2
      exact ⟨rfl, hb2⟩
    · have hl := last_of old (by omega)
      have hlt : old.size - 1 < old.size := by omega
      have h0 : (0 : Int) < old.size := by omega
      have hu := u8_next (old[old.size - 1]'hlt)
      have h8 := UInt8.toNat_lt (old[old.size - 1]'hlt)
      rw [← hl] at hu
      have HU := hid hu
      clear hl hu
      go_enter Try.func24, Try.ntmps24
      go_wp2_with (go_at_call 46; rw [HU.out]; refine H2.out.mono ?_; rintro e w2 ⟨rfl, hb2⟩)
      go_ret2
      exact ⟨rfl, hb2⟩
end Go.Proofs.Ytkfgbjmadfnmkaa
