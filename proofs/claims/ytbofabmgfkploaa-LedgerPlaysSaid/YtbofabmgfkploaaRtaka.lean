/-
  The walk of the document's Accounts.
-/
import Derived.Test.YtbofabmgfkploaaRef3
namespace Go.Proofs.Ytbofabmgfkploaa
open Go.RowKit
set_option maxRecDepth 10000

set_option maxHeartbeats 1000000 in
theorem rtaka_none (s : ByteArray) (w : World) (hs : s.size ≤ 140737488355328) (h : s.size % 9 ≠ 0 ∨ ¬ (1 ≤ s.size / 9 ∧ s.size / 9 ≤ 4)) : Calls Try.prog 37 #[.string s] w (LB Ac.cells w ([], false)) := by
  by_cases h1 : s.size % 9 = 0
  · have h2 : ((s.size : Int) % 9) = 0 := by omega
    have HM := hid (many_any ((s.size : Int) / 9))
    rw [decide_eq_false (show ¬ (1 ≤ ((s.size : Int) / 9) ∧ ((s.size : Int) / 9) ≤ 4) by omega)] at HM
    clear h h1
    go_enter Try.func37, Try.ntmps37
    go_wp2_with (go_at_call 80; refine (HM.out _).mono ?_; rintro e w' ⟨rfl, rfl⟩)
    go_ret2
    exact LB_none _ (Below.refl _ _)
  · have h2 : ¬ (((s.size : Int) % 9) = 0) := by omega
    clear h h1
    go_enter Try.func37, Try.ntmps37
    go_wp2_with fail
    go_ret2
    exact LB_none _ (Below.refl _ _)

set_option maxHeartbeats 1000000 in
theorem rtaka_some (s : ByteArray) (w : World) (q : Nat) (hq : s.size = q * 9) (h1 : 1 ≤ q) (h4 : q ≤ 4) : Calls Try.prog 37 #[.string s] w (LB Ac.cells w (firstk 9 decA (sb s) q, true)) := by
  obtain ⟨i0, hi, hz0, hz1, hz2⟩ := info_parts acInfo
  have h2 : ((s.size : Int) % 9) = 0 := by omega
  have HM := hid (many_any ((s.size : Int) / 9))
  rw [decide_eq_true (show (1 ≤ ((s.size : Int) / 9) ∧ ((s.size : Int) / 9) ≤ 4) by omega)] at HM
  have HQ := hid hq
  have hsm : s.size ≤ 128 := by omega
  have HSL := hid (sb_len s)
  clear hq
  go_enter Try.func37, Try.ntmps37
  go_wp2_with (go_at_call 80; refine (HM.out _).mono ?_; rintro e w' ⟨rfl, rfl⟩)
  go_loopw [4, 5] (fun lv iv wr => ∃ (k i : Nat), k ≤ q ∧ iv = .int .i64 (i : Int) ∧ Hid (i = k * 9) ∧ wr.ownsRow w.heap.size 45 4 lv k (rows Ac.cells (firstk 9 decA (sb s) k)) ∧ Below w.heap.size w wr) (fun _ iv _ => s.size - (intOf iv).toNat)
  case atStart => exact ⟨0, 0, by omega, rfl, hid (by omega), own_empty (Row.new _ _ #[]) (Nat.le_refl _), (Below.refl _ _).alloc (Nat.le_refl _) _⟩
  case round =>
    obtain ⟨k, i, hk, rfl, HI, hown, hbe⟩ := hrel
    have HBE := hid hbe
    have hsz := hbe.size
    obtain ⟨A, c, rfl, hkc, -⟩ := own_rd hown
    by_cases hlt : k < q
    · have hlt2 : i + 9 ≤ s.size := by
        have h3 : (k + 1) * 9 ≤ q * 9 := Nat.mul_le_mul_right _ hlt
        have := HQ.out
        have := HI.out
        omega
      have hlt3 : (i : Int) < (s.size : Int) := by omega
      have HOW := hid hown
      have h8 : i + 8 < s.size := by omega
      have hcs : Ac.cells (decA (piece 9 (sb s) k)) = [.int .u64 (at8 (sb s) i : Int), .int .i64 ((s[i + 8]'h8).toNat : Int), .int .u64 0, .int .u64 0] := by
        have e1 := at8_piece 9 (sb s) k 0 (by omega)
        have e2 : (piece 9 (sb s) k).getD 8 0 = s[i + 8]'h8 := by
          unfold piece
          rw [List.getD, List.getElem?_take_of_lt (by omega), List.getElem?_drop, ← HI.out, List.getElem?_eq_getElem (by rw [sb_len]; omega)]
          rfl
        unfold decA Ac.cells
        rw [e1, Nat.add_zero, ← HI.out, e2]
        rfl
      have hb8 := UInt8.toNat_lt (s[i + 8]'h8)
      have HA0 := hid (fun W => at_any s i W (by omega) (by omega))
      generalize at8 (sb s) i = x0 at *
      have hrow := rows_firstk Ac.cells 9 decA (sb s) k
      rw [hcs] at hrow
      have HRW := hid hrow
      clear hrow hcs hown hbe
      have hw8 : IntKind.i64.wrap ((s[i + 8]'h8).toNat : Int) = ((s[i + 8]'h8).toNat : Int) := IntWalk.i64_in _ (by omega)
      have hw9 : IntKind.i64.wrap ((i : Int) + 8) = (i : Int) + 8 := IntWalk.i64_in _ (by omega)
      have hix : 0 ≤ (i : Int) + 8 ∧ (i : Int) + 8 < (s.size : Int) := by omega
      have hin : ((i : Int) + 8).toNat = i + 8 := by omega
      go_wp2_with fail
      refine wp_region_held_drew (S := fun _ => True) (by kernel_rfl) trivial (fun hH => ?_)
      refine wpAnyH_take (i := 0) (v := .slice A k c) rfl (by kernel_rfl) (by kernel_rfl) (by kernel_rfl) (fun _ _ _ h => h) (Or.inl ⟨by rfl, fun w' hw' => by clear hw' ; go_simp⟩) hH ?_
      simp only [Act.put]
      refine wpAnyH_take (i := 1) (v := .string s) rfl (by kernel_rfl) (by kernel_rfl) (by kernel_rfl) (fun _ _ _ h => h) (Or.inl ⟨by rfl, fun w' hw' => by clear hw' ; go_simp⟩) hH ?_
      simp only [Act.put]
      refine wpAnyH_take (i := 2) (v := .int .i64 (i : Int)) rfl (by kernel_rfl) (by kernel_rfl) (by kernel_rfl) (fun _ _ _ h => h) (Or.inl ⟨by rfl, fun w' hw' => by clear hw' ; go_simp⟩) hH ?_
      simp only [Act.put]
      refine wpAnyH_take (i := 4) (v := .string s) rfl (by kernel_rfl) (by kernel_rfl) (by kernel_rfl) (fun _ _ _ h => h) (Or.inl ⟨by rfl, fun w' hw' => by clear hw' ; go_simp⟩) hH ?_
      simp only [Act.put]
      refine wpAnyH_take (i := 5) (v := .int .i64 (i : Int)) rfl (by kernel_rfl) (by kernel_rfl) (by kernel_rfl) (fun _ _ _ h => h) (Or.inl ⟨by rfl, fun w' hw' => by clear hw' ; go_simp⟩) hH ?_
      simp only [Act.put]
      refine wpAnyH_take (i := 6) (v := .int .i64 ((i : Int) + 8)) rfl (by kernel_rfl) (by kernel_rfl) (by kernel_rfl) (fun _ _ _ h => h) (Or.inl ⟨by rfl, fun w' hw' => by clear hw' ; go_simp⟩) hH ?_
      simp only [Act.put]
      refine wpAnyH_take (i := 7) (v := .int .u8 ((s[i + 8]'h8).toNat : Int)) rfl (by kernel_rfl) (by kernel_rfl) (by kernel_rfl) (fun _ _ _ h => h) (Or.inl ⟨by rfl, fun w' hw' => by clear hw' ; go_simp⟩) hH ?_
      simp only [Act.put]
      refine wpAnyH_take (i := 8) (v := .int .i64 ((s[i + 8]'h8).toNat : Int)) rfl (by kernel_rfl) (by kernel_rfl) (by kernel_rfl) (fun _ _ _ h => h) (Or.inl ⟨by rfl, fun w' hw' => by clear hw' ; go_simp⟩) hH ?_
      simp only [Act.put]
      generalize ((s[i + 8]'h8).toNat) = b at *
      have HRW2 : Hid (rows Ac.cells (firstk 9 decA (sb s) (k + 1)) = rows Ac.cells (firstk 9 decA (sb s) k) ++ [.int .u64 (x0 : Int), .int .i64 (b : Int), .int .u64 0, .int .u64 0]) := hid HRW.out
      refine wpAnyH_ready (rs := [3]) (by kernel_rfl) (by simp) ?_
      refine AllReadyH.cons rfl (fun K hK => ?_) AllReadyH.nil
      go_simp
      go_at_call 81
      refine (HA0.out _).mono ?_
      rintro e w2 ⟨rfl, hb2⟩
      have hk2 : Below wr.heap.size wr w2 := Kp.call hb2 (Kp.refl wr).drew
      go_wp2_with fail
      refine hK.out _ _ (trivial) (fun hH => ?_)
      clear hK K
      try simp only [Act.put]
      refine wpAnyH_ready (rs := [9]) (by kernel_rfl) (by simp) ?_
      refine AllReadyH.cons rfl (fun K hK => ?_) AllReadyH.nil
      go_simp
      refine hK.out _ _ (trivial) (fun hH => ?_)
      clear hK K
      try simp only [Act.put]
      refine wpAnyH_ready (rs := [10]) (by kernel_rfl) (by simp) ?_
      refine AllReadyH.cons rfl (fun K hK => ?_) AllReadyH.nil
      go_simp
      refine hK.out _ _ (trivial) (fun hH => ?_)
      clear hK K
      try simp only [Act.put]
      refine wpAnyH_ready (rs := [11]) (by kernel_rfl) (by simp) ?_
      refine AllReadyH.cons rfl (fun K hK => ?_) AllReadyH.nil
      rw [if_pos (by rfl)]
      refine wpo_append (.tmp 24) (.tmp 34) 27 rfl w.heap.size 45 i0 _ 4 32 Try.underlying27 hi hz0 hz1 hz2 rfl (by omega) (.slice A k c) k _ rfl ((own_below HOW.out hk2).alloc _) (w2.heap.size + 1) (some ⟨w2.heap.size, 0, none⟩) 1 1 [.int .u64 (x0 : Int), .int .i64 (b : Int), .int .u64 0, .int .u64 0] rfl (fun v6 w6 hown4 hb4 hg4 => ?_) ?_ ?_ ?_ ?_ ?_ ?_
      rotate_left
      · exact hid (Row.rd (cs := [.int .u64 (x0 : Int), .int .i64 (b : Int), .int .u64 0, .int .u64 0]) (Row.new _ _ _) (Nat.lt_succ_self _))
      · exact hid (by first | trivial | rfl)
      · exact hid (by first | rfl | trivial | (intro u hu; simp at hu; rcases hu with rfl | rfl | rfl | rfl <;> rfl) | (intro u hu; simp at hu; subst hu; rfl) | (simp [Value.oneCell']; done))
      · exact hid (le_maxLen (by omega))
      · exact hid (by omega)
      · exact hid (by have h9 := hk2.size; first | omega | (simp; omega))
      rw [← HRW2.out] at hown4
      have HO4 := hid hown4
      have HB4 := hid (((HBE.out.trans (Below.mono hk2 hsz)).alloc (Nat.le_trans hsz (Below.size hk2)) _).trans hb4)
      refine hK.out _ _ trivial (fun hH => ?_)
      clear hK K
      try simp only [Act.put]
      refine wpAnyH_ready (rs := [12]) (by kernel_rfl) (by simp) ?_
      refine AllReadyH.cons rfl (fun K hK => ?_) AllReadyH.nil
      go_simp
      refine hK.out _ _ (trivial) (fun hH => ?_)
      clear hK K
      try simp only [Act.put]
      refine wpAnyH_done (by kernel_rfl) ?_ _
      try simp only [Act.put]
      go_wp2_with fail
      go_roundw
      case rel => exact ⟨k + 1, i + 9, by omega, by go_num, hid (by have := HI.out; omega), HO4.out, HB4.out⟩
      case measure => simp [intOf]; omega
    · obtain rfl : k = q := by omega
      have HOW := hid hown
      have hge : ¬ ((i : Int) < (s.size : Int)) := by have := HI.out; have := HQ.out; omega
      clear hown hbe
      go_wp2_with fail
      go_ret2
      obtain ⟨A', c', e, -, hrd⟩ := own_rd HOW.out
      cases e
      refine ⟨A, c, ?_, ?_, hrd, HBE.out, NewA.own HOW.out⟩
      · show _ = Ending.returned (.tuple #[.slice A (firstk _ _ _ k).length c, .bool true])
        rw [firstk_len]
        rfl
      · show (firstk _ _ _ k).length ≤ c
        rw [firstk_len]
        exact hkc
theorem rtaka_list (s : ByteArray) (w : World) (hs : s.size ≤ 140737488355328) : Calls Try.prog 37 #[.string s] w (LB Ac.cells w (takL 9 decA (sb s))) := by
  by_cases h : s.size % 9 = 0 ∧ 1 ≤ s.size / 9 ∧ s.size / 9 ≤ 4
  · rw [takL_yes _ _ _ (by rw [sb_len]; exact h.1) (by rw [sb_len]; exact h.2.1) (by rw [sb_len]; exact h.2.2), sb_len]
    exact rtaka_some s w (s.size / 9) (by omega) h.2.1 h.2.2
  · rw [takL_no _ _ _ (by rw [sb_len]; omega)]
    exact rtaka_none s w hs (by omega)
end Go.Proofs.Ytbofabmgfkploaa
