/-
  The walk of SealTears.
-/
import Derived.Test.YtkfgbjmadfnmkaaLaws
namespace Go.Proofs.Ytkfgbjmadfnmkaa
open Go.RowKit
set_option maxRecDepth 10000

theorem whole_of (old : ByteArray) : ∃ O : ByteArray, sb O = wholeS (sb old) ∧ O.size = 384 ∧
    Hid (∀ W : World, Calls Try.prog 27 #[.string old] W fun e W' => e = .returned (.string O) ∧ Below W.heap.size W W') :=
  ⟨⟨(wholeS (sb old)).toArray⟩, sb_mk _, by rw [← sb_len, sb_mk, wholeS_len], hid fun W => whole_calls old W⟩
theorem next_ne (c : UInt8) : c ≠ c + 1 := by
  intro h
  have h1 := congrArg UInt8.toNat h
  rw [UInt8.toNat_add] at h1
  have := UInt8.toNat_lt c
  simp at h1
  omega
theorem next_of (l : List UInt8) (h : l.length = 384) : nextS l = l.getD 383 0 + 1 := by unfold nextS; rw [if_neg (by omega), h]

/-- the place that is cut -/
def cutS (c : Int) : Nat := (c % 18446744073709551616 % 384).toNat
theorem cutS_lt (c : Int) : cutS c < 384 := by unfold cutS; omega
theorem cut_code (c : Int) : wrap64 ((IntKind.u64.wrap c).tmod 384) = (cutS c : Int) := by
  have h : IntKind.u64.wrap c = c % 18446744073709551616 := by simp [IntKind.wrap, IntKind.bits, IntKind.signed]
  have h2 : 0 ≤ c % 18446744073709551616 := by omega
  rw [h, Int.tmod_eq_emod_of_nonneg h2]
  have h3 : 0 ≤ c % 18446744073709551616 % 384 := by omega
  have h4 : c % 18446744073709551616 % 384 < 384 := by omega
  unfold cutS
  rw [Int.toNat_of_nonneg h3]
  unfold wrap64
  omega

set_option maxHeartbeats 1000000 in
theorem tears_any (old s : ByteArray) (cut : Int) (w : World) :
    Calls Try.prog 6 #[.string old, .string s, .int .i64 cut] w (Yes w) := by
  have HA := hid awake_any
  have HC := hid (cut_code cut)
  obtain ⟨O, hO, hOl, Q0⟩ := whole_of old
  by_cases h : s.size ≤ 376
  · obtain ⟨L, hsb, hL, ho, Q1⟩ := seal_room O s (by omega) h
    have hc := cutS_lt cut
    obtain ⟨M, hM, Q3⟩ : ∃ M : ByteArray, sb M = mixS (sb L) (sb O) (cutS cut) ∧ Hid (∀ W : World, Calls Try.prog 28 #[.string L, .string O, .int .i64 (cutS cut : Int)] W fun e W' => e = .returned (.string M) ∧ Below W.heap.size W W') :=
      ⟨⟨(mixS (sb L) (sb O) (cutS cut)).toArray⟩, sb_mk _, hid fun W => mix_any L O (cutS cut) W hL hOl (by omega)⟩
    by_cases h0 : cutS cut = 0
    · have hMO : M = O := by
        rw [← mk_sb M, hM, h0, ← mk_sb O]
        simp [mixS, sb_mk]
      subst hMO
      rw [h0] at HC Q3
      generalize hr : openS (sb M) = r
      have Q4 := open_of M r hr
      obtain ⟨t, b⟩ := r
      clear hsb ho hM hO hr h0 hc
      go_enter Try.func6, Try.ntmps6
      go_wp2_with (first
        | (go_at_call 22; refine (HA.out _).mono ?_; rintro e w1 ⟨rfl, hb⟩)
        | (go_at_call 27; refine (Q0.out _).mono ?_; rintro e w2 ⟨rfl, hx⟩; replace hb := hb.trans (hx.mono hb.size); clear hx)
        | (go_at_call 23; refine (Q1.out _).mono ?_; rintro e w3 ⟨rfl, hx⟩; replace hb := hb.trans (hx.mono hb.size); clear hx)
        | (go_at_call 28; rw [HC.out]; refine (Q3.out _).mono ?_; rintro e w4 ⟨rfl, hx⟩; replace hb := hb.trans (hx.mono hb.size); clear hx)
        | (go_at_call 25; refine (Q4.out _).mono ?_; rintro e w5 ⟨rfl, hx⟩; replace hb := hb.trans (hx.mono hb.size); clear hx))
      go_ret
      exact ⟨rfl, hb⟩
    · have hno : openS (sb M) = ([], false) := by
        rw [hM, hsb]
        refine tears_not _ _ _ _ (by rw [sb_len]; exact h) ?_ (by omega) hc
        rw [next_of _ (by rw [sb_len]; exact hOl)]
        exact next_ne _
      have Q4 := open_of M _ hno
      have hI : 0 < cutS cut := by omega
      clear hsb ho hM hO hno
      go_enter Try.func6, Try.ntmps6
      go_wp2_with (first
        | (go_at_call 22; refine (HA.out _).mono ?_; rintro e w1 ⟨rfl, hb1⟩)
        | (go_at_call 27; refine (Q0.out _).mono ?_; rintro e w2 ⟨rfl, hb2⟩)
        | (go_at_call 23; refine (Q1.out _).mono ?_; rintro e w3 ⟨rfl, hb3⟩)
        | (go_at_call 28; rw [HC.out]; refine (Q3.out _).mono ?_; rintro e w4 ⟨rfl, hb4⟩)
        | (go_at_call 25; refine (Q4.out _).mono ?_; rintro e w5 ⟨rfl, hb5⟩))
      go_ret
      have s1 := hb1.size
      have s2 := hb2.size
      have s3 := hb3.size
      have s4 := hb4.size
      exact ⟨rfl, (((hb1.trans (hb2.mono s1)).trans (hb3.mono (by omega))).trans (hb4.mono (by omega))).trans (hb5.mono (by omega))⟩
  · have Q1 := seal_none O s (by omega) h
    have hI : (376 : Int) < s.size := by omega
    clear h hO
    go_enter Try.func6, Try.ntmps6
    go_wp2_with (first
      | (go_at_call 22; refine (HA.out _).mono ?_; rintro e w1 ⟨rfl, hb1⟩)
      | (go_at_call 27; refine (Q0.out _).mono ?_; rintro e w2 ⟨rfl, hb2⟩)
      | (go_at_call 23; refine (Q1.out _).mono ?_; rintro e w3 ⟨rfl, hb3⟩))
    go_ret
    have s1 := hb1.size
    have s2 := hb2.size
    exact ⟨rfl, (hb1.trans (hb2.mono s1)).trans (hb3.mono (by omega))⟩
end Go.Proofs.Ytkfgbjmadfnmkaa
