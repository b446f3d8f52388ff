/-
  The walk of SealMoves.
-/
import Derived.Test.YtkfgbjmadfnmkaaTurnsL
import Derived.BigQuiet
import Derived.Deep.QuietTactic
namespace Go.Proofs.Ytkfgbjmadfnmkaa
open Go.RowKit
set_option maxRecDepth 10000

theorem byte_ne (x y : UInt8) (h : x ≠ y) : ((x.toNat : Int) == (y.toNat : Int)) = false := by
  rw [beq_eq_false_iff_ne]
  intro e
  exact h (UInt8.toNat_inj.1 (by exact_mod_cast e))
theorem at_of {s : ByteArray} {i : Nat} {c : UInt8} (hi : i < s.size) (h : (sb s)[i]? = some c) : s[i]'hi = c := by
  rw [List.getElem?_eq_getElem (by rw [sb_len]; exact hi)] at h
  exact Option.some.inj h
/-- the ends of a sector that is sealed over another one -/
theorem ends_of (O L s : ByteArray) (hO : O.size = 384) (hL : L.size = 384) (hs : s.size ≤ 376) (h : sb L = layS (nextS (sb O)) (sb s)) :
    L[0]'(by omega) = L[383]'(by omega) ∧ L[383]'(by omega) ≠ O[383]'(by omega) := by
  have h1 : L[0]'(by omega) = nextS (sb O) := at_of _ (by rw [h, lay_first])
  have h2 : L[383]'(by omega) = nextS (sb O) := at_of _ (by rw [h, lay_last _ _ (by rw [sb_len]; exact hs)])
  have h3 : nextS (sb O) = O[383]'(by omega) + 1 := by
    rw [last_of O (by omega)]
    congr 2
    omega
  refine ⟨by rw [h1, h2], ?_⟩
  rw [h2, h3]
  exact (next_ne _).symm

set_option maxHeartbeats 1000000 in
theorem moves_any (old s t : ByteArray) (w : World) :
    Calls Try.prog 8 #[.string old, .string s, .string t] w (Yes w) := by
  have HA := hid awake_any
  obtain ⟨O, hO, hOl, Q0⟩ := whole_of old
  by_cases h : s.size ≤ 376
  · obtain ⟨L, hsb, hL, ho, Q1⟩ := seal_room O s (by omega) h
    by_cases h2 : t.size ≤ 376
    · obtain ⟨M, hsm, hM, ho2, Q2⟩ := seal_room L t (by omega) h2
      obtain ⟨e1, e2⟩ := ends_of O L s hOl hL h hsb
      obtain ⟨e3, e4⟩ := ends_of L M t hL hM h2 hsm
      have e5 : M ≠ L := by rintro rfl; exact e4 rfl
      have n1 := byte_ne _ _ e2
      have n2 := byte_ne _ _ e4
      have n3 := str_ne e5
      have m1 : ((L[383]'(by omega)).toNat : Int) ≠ ((O[383]'(by omega)).toNat : Int) := by simpa using n1
      have m2 : ((M[383]'(by omega)).toNat : Int) ≠ ((L[383]'(by omega)).toNat : Int) := by simpa using n2
      have k1 : (((L[383]'(by omega)).toNat : Int) != ((O[383]'(by omega)).toNat : Int)) = true := by simpa using m1
      have k2 : (((M[383]'(by omega)).toNat : Int) != ((L[383]'(by omega)).toNat : Int)) = true := by simpa using m2
      clear hsb ho hsm ho2 hO e2 e3 e4 e5
      go_enter Try.func8, Try.ntmps8
      go_wp2_with (first
        | (go_at_call 22; refine (HA.out _).mono ?_; rintro e w1 ⟨rfl, hb⟩)
        | (go_at_call 27; refine (Q0.out _).mono ?_; rintro e w2 ⟨rfl, hx⟩; replace hb := hb.trans (hx.mono hb.size); clear hx)
        | (go_at_call_of 23 (Value.string O); refine (Q1.out _).mono ?_; rintro e w3 ⟨rfl, hx⟩; replace hb := hb.trans (hx.mono hb.size); clear hx)
        | (go_at_call 23; refine (Q2.out _).mono ?_; rintro e w4 ⟨rfl, hx⟩; replace hb := hb.trans (hx.mono hb.size); clear hx))
      go_quiet (fail)
      go_wp2_with fail
      go_ret
      exact ⟨rfl, hb.os, hb.tape, hb.output, hb.size, hb.block⟩
    · have Q2 := seal_none L t (by omega) h2
      have hI : (376 : Int) < t.size := by omega
      clear h2 hsb ho hO
      go_enter Try.func8, Try.ntmps8
      go_wp2_with (first
        | (go_at_call 22; refine (HA.out _).mono ?_; rintro e w1 ⟨rfl, hb⟩)
        | (go_at_call 27; refine (Q0.out _).mono ?_; rintro e w2 ⟨rfl, hx⟩; replace hb := hb.trans (hx.mono hb.size); clear hx)
        | (go_at_call_of 23 (Value.string O); refine (Q1.out _).mono ?_; rintro e w3 ⟨rfl, hx⟩; replace hb := hb.trans (hx.mono hb.size); clear hx)
        | (go_at_call 23; refine (Q2.out _).mono ?_; rintro e w4 ⟨rfl, hx⟩; replace hb := hb.trans (hx.mono hb.size); clear hx))
      go_ret
      exact ⟨rfl, hb⟩
  · have Q1 := seal_none O s (by omega) h
    have hI : (376 : Int) < s.size := by omega
    clear h hO
    go_enter Try.func8, Try.ntmps8
    go_wp2_with (first
      | (go_at_call 22; refine (HA.out _).mono ?_; rintro e w1 ⟨rfl, hb⟩)
      | (go_at_call 27; refine (Q0.out _).mono ?_; rintro e w2 ⟨rfl, hx⟩; replace hb := hb.trans (hx.mono hb.size); clear hx)
      | (go_at_call 23; refine (Q1.out _).mono ?_; rintro e w3 ⟨rfl, hx⟩; replace hb := hb.trans (hx.mono hb.size); clear hx))
    go_ret
    exact ⟨rfl, hb⟩
end Go.Proofs.Ytkfgbjmadfnmkaa
