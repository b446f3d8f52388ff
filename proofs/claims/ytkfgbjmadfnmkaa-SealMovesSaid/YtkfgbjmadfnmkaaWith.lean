/-
  The walk of the document's With.
-/
import Derived.Test.YtkfgbjmadfnmkaaSeal
namespace Go.Proofs.Ytkfgbjmadfnmkaa
open Go.RowKit
set_option maxRecDepth 10000

/-- how long a slice is -/
def lenV : Value → Nat
  | .slice _ n _ => n
  | _ => 0

set_option maxHeartbeats 1000000 in
theorem with_calls (g : UInt8) (s : ByteArray) (hs : s.size ≤ 376) (w : World) :
    Calls Try.prog 46 #[.int .u8 (g.toNat : Int), .string s] w (SE w (layS g (sb s))) := by
  obtain ⟨i0, hi, hz0, hz1, hz2⟩ := info_parts u8info
  have P1 := hid (rpt_one g s hs w)
  have hsl := sb_len s
  have hb := headS_len g (sb s) (by omega)
  have hhead : bvs ([g] ++ le s.size 2 ++ sb s) ++ List.replicate (376 - s.size) (.int .u8 0) = bvs (headS g (sb s)) := by
    rw [bvs_zero, ← bvs_app, headS, hsl]
  have P2 := hid (rsum_of (headS g (sb s)) hb)
  have hx : (addS 0#32 (headS g (sb s))).toNat < 4294967296 := (addS 0#32 (headS g (sb s))).isLt
  have P3 := hid (fun A c B W hr hB => rput_sum A (headS g (sb s)) c B (addS 0#32 (headS g (sb s))) W hr hb hB)
  have hfin : layS g (sb s) = headS g (sb s) ++ le (addS 0#32 (headS g (sb s))).toNat 4 ++ [g] := rfl
  have hlen : 383 + 1 = (headS g (sb s) ++ le (addS 0#32 (headS g (sb s))).toNat 4 ++ [g]).length := by simp [hb, le_len]
  generalize headS g (sb s) = H at hb hhead P2 hx P3 hfin hlen
  generalize addS 0#32 H = x at P2 hx P3 hfin hlen
  generalize hbase : bvs ([g] ++ le s.size 2 ++ sb s) = base0 at hhead
  have HH := hid hhead
  have HB0 := hid hbase
  have HF := hid hfin
  have HB := hid hb
  have HL := hid hlen
  have HS := hid hs
  have HE : Hid (bvs (H ++ le x.toNat 4) ++ [.int .u8 (g.toNat : Int)] = bvs (layS g (sb s))) := hid (by rw [hfin, bvs_app _ [g]]; rfl)
  clear hhead hfin hb hsl hlen hbase
  go_enter Try.func46, Try.ntmps46
  go_wp2_with (go_at_call 60; refine P1.out.mono ?_; rintro e w1 ⟨A1, c1, rfl, hown1, hb1⟩; rw [HB0.out] at hown1)
  go_loopw [5] (fun b wr => ∃ (k n : Nat) (A : Option Addr) (c : Nat), b = .slice A n c ∧ n = s.size + 3 + k ∧ n ≤ 379 ∧ wr.ownsRow w.heap.size 5 1 (.slice A n c) n (base0 ++ List.replicate k (.int .u8 0)) ∧ Below w.heap.size w wr) (fun b _ => 379 - lenV b)
  case atStart => exact ⟨0, _, A1, c1, rfl, by omega, by omega, by simpa using hown1, hb1⟩
  case round =>
    obtain ⟨k, n, A, c, rfl, hn, hn2, hown, hbe⟩ := hrel
    by_cases hlt : n < 379
    · have hd : decide ((n : Int) < 379) = true := by simp; omega
      have HN := hid hn
      clear hn
      go_wp2_with (with_reducible refine wpl_append rfl _ _ 56 rfl w.heap.size 5 i0 _ 1 1 Try.underlying56 hi hz0 hz1 hz2 rfl (by omega) (.slice A n c) n _ rfl (hown.alloc _) (wr.heap.size + 1) (some ⟨wr.heap.size, 0, none⟩) 1 1 [.int .u8 0] rfl ?_ ?_ ?_ ?_ ?_ ?_ ?_; intro v2 w2 hown2 hb2 hg2; obtain ⟨A2, c2, rfl, -, -, hrd2⟩ := own_shape hown2)
      rotate_left
      · refine hid fun _ => ⟨_, _, rfl, by omega, ?_⟩
        intro j u hu
        match j, hu with
        | 0, hu => simp at hu; subst hu; simp
      · exact hid rfl
      · exact hid (by intro u hu; simp at hu; subst hu; rfl)
      · exact hid (le_maxLen (by omega))
      · exact hid (by omega)
      · exact hid (by have := hbe.size; simp; omega)
      go_roundw
      case rel =>
        refine ⟨k + 1, n + 1, A2, c2, rfl, by have := HN.out; omega, by omega, ?_, (hbe.alloc hbe.size _).trans hb2⟩
        rw [List.append_assoc] at hown2
        rwa [List.replicate_succ']
      case measure => simp [lenV]; omega
    · obtain rfl : n = 379 := by omega
      have hk : k = 376 - s.size := by omega
      subst hk
      rw [HH.out] at hown
      obtain ⟨A2, c2, h2, -, -, hrd2⟩ := own_shape hown
      simp only [Value.slice.injEq, true_and] at h2
      obtain ⟨rfl, rfl⟩ := h2
      clear hn
      go_wp2_with (first
        | (with_reducible refine wpl_str rfl _ 56 9 rfl 5 Try.underlying56 Try.underlying5 Try.underlying9 A 379 c rfl wr.heap.size H ?_ (hid hrd2) (hid HB.out.symm))
        | (go_at_call 62; refine (P2.out _).mono ?_; rintro e w3 ⟨rfl, rfl⟩)
        | (go_at_call 61; refine (P3.out A c wr.heap.size _ hrd2 (Nat.le_refl _)).mono ?_; rintro e w4 ⟨A4, c4, rfl, hown4, hb4⟩)
        | (with_reducible refine wpl_append rfl _ _ 56 rfl wr.heap.size 5 i0 _ 1 1 Try.underlying56 hi hz0 hz1 hz2 rfl (by omega) (.slice A4 383 c4) 383 _ rfl (hown4.alloc _) (w4.heap.size + 1) (some ⟨w4.heap.size, 0, none⟩) 1 1 [.int .u8 (g.toNat : Int)] rfl ?_ ?_ ?_ ?_ ?_ ?_ ?_; intro v5 w5 hown5 hb5 hg5; rw [HE.out] at hown5; obtain ⟨A5, c5, rfl, -, -, hrd5⟩ := own_shape hown5)
        | (with_reducible refine wpl_str rfl _ 56 9 rfl 5 Try.underlying56 Try.underlying5 Try.underlying9 A5 (383 + 1) c5 rfl w5.heap.size (layS g (sb s)) ?_ (hid hrd5) (hid (by rw [HF.out]; exact HL.out))))
      rotate_left
      · refine hid fun _ => ⟨_, _, rfl, by omega, ?_⟩
        intro j u hu
        match j, hu with
        | 0, hu => simp at hu; subst hu; simp
      · exact hid rfl
      · exact hid (by intro u hu; simp at hu; subst hu; rfl)
      · exact hid (le_maxLen (by omega))
      · exact hid (by omega)
      · exact hid (by have := hb4.size; simp; omega)
      go_ret
      refine ⟨rfl, ?_⟩
      have s2 := hbe.size
      have s4 := hb4.size
      exact (hbe.trans (hb4.mono s2)).trans ((Below.refl _ _).alloc (by omega) _ |>.trans (hb5.mono (by omega)))
end Go.Proofs.Ytkfgbjmadfnmkaa
