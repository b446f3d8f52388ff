/-
  The walk of the document's IDs.
-/
import Derived.Test.YtbofabmgfkploaaRef3
namespace Go.Proofs.Ytbofabmgfkploaa
open Go.RowKit
set_option maxRecDepth 10000

set_option maxHeartbeats 1000000 in
theorem rtaki_none (s : ByteArray) (w : World) (hs : s.size ≤ 140737488355328) (h : s.size % 8 ≠ 0 ∨ ¬ (1 ≤ s.size / 8 ∧ s.size / 8 ≤ 4)) : Calls Try.prog 41 #[.string s] w (LB Ic w ([], false)) := by
  by_cases h1 : s.size % 8 = 0
  · have h2 : ((s.size : Int) % 8) = 0 := by omega
    have HM := hid (many_any ((s.size : Int) / 8))
    rw [decide_eq_false (show ¬ (1 ≤ ((s.size : Int) / 8) ∧ ((s.size : Int) / 8) ≤ 4) by omega)] at HM
    clear h h1
    go_enter Try.func41, Try.ntmps41
    go_wp2_with (go_at_call 80; refine (HM.out _).mono ?_; rintro e w' ⟨rfl, rfl⟩)
    go_ret2
    exact LB_none _ (Below.refl _ _)
  · have h2 : ¬ (((s.size : Int) % 8) = 0) := by omega
    clear h h1
    go_enter Try.func41, Try.ntmps41
    go_wp2_with fail
    go_ret2
    exact LB_none _ (Below.refl _ _)

set_option maxHeartbeats 1000000 in
theorem rtaki_some (s : ByteArray) (w : World) (q : Nat) (hq : s.size = q * 8) (h1 : 1 ≤ q) (h4 : q ≤ 4) : Calls Try.prog 41 #[.string s] w (LB Ic w (firstk 8 decI (sb s) q, true)) := by
  obtain ⟨i0, hi, hz0, hz1, hz2⟩ := info_parts u64Info
  have h2 : ((s.size : Int) % 8) = 0 := by omega
  have HM := hid (many_any ((s.size : Int) / 8))
  rw [decide_eq_true (show (1 ≤ ((s.size : Int) / 8) ∧ ((s.size : Int) / 8) ≤ 4) by omega)] at HM
  have HQ := hid hq
  have hsm : s.size ≤ 128 := by omega
  have HSL := hid (sb_len s)
  clear hq
  go_enter Try.func41, Try.ntmps41
  go_wp2_with (go_at_call 80; refine (HM.out _).mono ?_; rintro e w' ⟨rfl, rfl⟩)
  go_loopw [4, 5] (fun lv iv wr => ∃ (k i : Nat), k ≤ q ∧ iv = .int .i64 (i : Int) ∧ Hid (i = k * 8) ∧ wr.ownsRow w.heap.size 41 1 lv k (rows Ic (firstk 8 decI (sb s) k)) ∧ Below w.heap.size w wr) (fun _ iv _ => s.size - (intOf iv).toNat)
  case atStart => exact ⟨0, 0, by omega, rfl, hid (by omega), own_empty (Row.new _ _ #[]) (Nat.le_refl _), (Below.refl _ _).alloc (Nat.le_refl _) _⟩
  case round =>
    obtain ⟨k, i, hk, rfl, HI, hown, hbe⟩ := hrel
    have HBE := hid hbe
    have hsz := hbe.size
    obtain ⟨A, c, rfl, hkc, -⟩ := own_rd hown
    by_cases hlt : k < q
    · have hlt2 : i + 8 ≤ s.size := by
        have h3 : (k + 1) * 8 ≤ q * 8 := Nat.mul_le_mul_right _ hlt
        have := HQ.out
        have := HI.out
        omega
      have hlt3 : (i : Int) < (s.size : Int) := by omega
      have HOW := hid hown
      have hcs : Ic (decI (piece 8 (sb s) k)) = [.int .u64 (at8 (sb s) i : Int)] := by
        unfold decI Ic
        rw [at8_piece 8 (sb s) k 0 (by omega), Nat.add_zero, ← HI.out]
      have HA0 := hid (fun W => at_any s i W (by omega) (by omega))
      generalize at8 (sb s) i = x0 at *
      have hrow := rows_firstk Ic 8 decI (sb s) k
      rw [hcs] at hrow
      have HRW := hid hrow
      clear hrow hcs hown hbe
      go_wp2_with (first
        | (go_at_call 81; refine (HA0.out _).mono ?_; rintro e w2 ⟨rfl, hb2⟩; have hk2 : Below wr.heap.size wr w2 := hb2; clear HA0)
        | (refine wpl_append rfl (.tmp 24) (.tmp 28) 46 rfl w.heap.size 41 i0 _ 1 8 Try.underlying46 hi hz0 hz1 hz2 rfl (by omega) (.slice A k c) k _ rfl ((own_below HOW.out hk2).alloc _) (w2.heap.size + 1) (some ⟨w2.heap.size, 0, none⟩) 1 1 [.int .u64 (x0 : Int)] rfl ?_ ?_ ?_ ?_ ?_ ?_ ?_; intro v6 w6 hown4 hb4 hg4; rw [← HRW.out] at hown4; have HO4 := hid hown4; have HB4 := hid (((HBE.out.trans (Below.mono hk2 hsz)).alloc (Nat.le_trans hsz hk2.size) _).trans hb4); clear hown4 hb4 hg4))
      rotate_left
      · exact hid (Row.rd (cs := [.int .u64 (x0 : Int)]) (Row.new _ _ _) (Nat.lt_succ_self _))
      · exact hid (by first | trivial | rfl)
      · exact hid (by first | rfl | trivial | (intro u hu; simp at hu; rcases hu with rfl | rfl | rfl | rfl <;> rfl) | (intro u hu; simp at hu; subst hu; rfl) | (simp [Value.oneCell']; done))
      · exact hid (le_maxLen (by omega))
      · exact hid (by omega)
      · exact hid (by have h9 := hk2.size; first | omega | (simp; omega))
      go_roundw
      case rel => exact ⟨k + 1, i + 8, by omega, by go_num, hid (by have := HI.out; omega), HO4.out, HB4.out⟩
      case measure => simp [intOf]; omega
    · obtain rfl : k = q := by omega
      have HOW := hid hown
      have hge : ¬ ((i : Int) < (s.size : Int)) := by have := HI.out; have := HQ.out; omega
      clear hown hbe
      go_wp2_with fail
      go_ret2
      obtain ⟨A', c', e, -, hrd⟩ := own_rd HOW.out
      cases e
      refine ⟨A, c, ?_, ?_, hrd, HBE.out, NewA.own HOW.out⟩
      · show _ = Ending.returned (.tuple #[.slice A (firstk _ _ _ k).length c, .bool true])
        rw [firstk_len]
        rfl
      · show (firstk _ _ _ k).length ≤ c
        rw [firstk_len]
        exact hkc
theorem rtaki_list (s : ByteArray) (w : World) (hs : s.size ≤ 140737488355328) : Calls Try.prog 41 #[.string s] w (LB Ic w (takL 8 decI (sb s))) := by
  by_cases h : s.size % 8 = 0 ∧ 1 ≤ s.size / 8 ∧ s.size / 8 ≤ 4
  · rw [takL_yes _ _ _ (by rw [sb_len]; exact h.1) (by rw [sb_len]; exact h.2.1) (by rw [sb_len]; exact h.2.2), sb_len]
    exact rtaki_some s w (s.size / 8) (by omega) h.2.1 h.2.2
  · rw [takL_no _ _ _ (by rw [sb_len]; omega)]
    exact rtaki_none s w hs (by omega)
end Go.Proofs.Ytbofabmgfkploaa
