/-
  The walks of PutText and of the answer held against it; the chapter's examples.
-/
import Derived.Test.YtgphijkonmdehaaRef2
namespace Go.Proofs.Ytgphijkonmdehaa
open Go.RowKit
set_option maxRecDepth 10000

theorem BE.len {w w' : World} {e : Ending} {bs : List UInt8} {x : Int} {n : Nat} (h : BE w (bs, x) e w') (hn : bs.length = n) :
    ∃ A c, e = .returned (.tuple #[.slice A n c, .int .i64 x]) ∧ w'.ownsRow w.heap.size 5 1 (.slice A n c) n (bvs bs) ∧ Below w.heap.size w w' := by
  subst hn
  exact h
/-- what PutText answers -/
def ptS (bs ss : List UInt8) : List UInt8 × Int := if 65535 < ss.length then ([], 5) else (bs ++ le ss.length 2 ++ ss, 0)

set_option maxHeartbeats 400000 in
theorem pt_long (A : Option Addr) (l c : Nat) (s : ByteArray) (w : World) (h : 65535 < (s.size : Int)) :
    Calls Try.prog 44 #[.slice A l c, .string s] w (BE w ([], 5)) := by
  go_enter Try.func44, Try.ntmps44
  go_wp2_with fail
  go_ret2
  exact ⟨none, 0, rfl, World.ownsRow_nil _ _ _ _, Below.refl _ _⟩

set_option maxHeartbeats 400000 in
theorem pt_ok (A : Option Addr) (bs : List UInt8) (l c B : Nat) (s : ByteArray) (w : World) (hr : Rd w B A (bvs bs)) (hl : l = bs.length) (hB : B ≤ w.heap.size) (hl2 : l ≤ 140737488200000) (h : (s.size : Int) ≤ 65535) :
    Calls Try.prog 44 #[.slice A l c, .string s] w (BE w (bs ++ le s.size 2 ++ sb s, 0)) := by
  obtain ⟨i0, hi, hz0, hz1, hz2⟩ := info_parts u8info
  have HL := hid hl
  clear hl
  go_enter Try.func44, Try.ntmps44
  go_wp2_with (first
    | (go_at_call 43; have L := lay_any A bs l c s.size 2 B w hr HL.out (by omega) hB (by omega); refine L.mono ?_; clear L; rintro e w1 ⟨g, rfl, hg, hrow, hbe⟩; have hown := hrow.own (B := w.heap.size) hg (le_maxLen (by rw [bvs_len, List.length_append, le_len, ← HL.out]; omega)); have HLL : (bvs (bs ++ le s.size 2)).length = l + 2 := (by simp [bvs_len, le_len, HL.out]); rw [HLL] at hown; clear HLL)
    | (with_reducible refine wpl_append_str rfl (.tmp 13) (.tmp 14) 60 9 rfl w.heap.size 5 i0 Try.underlying60 Try.underlying9 hi hz0 hz1 hz2 (.slice (some ⟨g, 0, none⟩) (l + 2) (l + 2)) (l + 2) _ rfl hown s rfl ?_ ?_ ?_ ?_; intro v' w2 hown2 hb2 hg2))
  rotate_left
  · exact hid (le_maxLen (by omega))
  · exact hid (by omega)
  · exact hid hbe.size
  go_ret2
  rw [← bvs_app] at hown2
  exact BE_own (by simp [le_len, HL.out, sb_len]; omega) hown2 (hbe.trans hb2)

theorem pt_any (A : Option Addr) (bs : List UInt8) (l c B : Nat) (s : ByteArray) (w : World) (hr : Rd w B A (bvs bs)) (hl : l = bs.length) (hB : B ≤ w.heap.size) (hl2 : l ≤ 140737488200000) :
    Calls Try.prog 44 #[.slice A l c, .string s] w (BE w (ptS bs (sb s))) := by
  unfold ptS
  rw [sb_len]
  by_cases h : 65535 < s.size
  · rw [if_pos h]
    exact pt_long A l c s w (by omega)
  · rw [if_neg h]
    exact pt_ok A bs l c B s w hr hl hB hl2 (by omega)

set_option maxHeartbeats 400000 in
theorem rpt_long (A : Option Addr) (l c : Nat) (s : ByteArray) (w : World) (h : 65535 < (s.size : Int)) :
    Calls Try.prog 33 #[.slice A l c, .string s] w (BE w ([], 5)) := by
  go_enter Try.func33, Try.ntmps33
  go_wp2_with fail
  go_ret2
  exact ⟨none, 0, rfl, World.ownsRow_nil _ _ _ _, Below.refl _ _⟩

theorem putS_two (bs : List UInt8) (n : Nat) (h : n ≤ 65535) : putS bs n 2 = (bs ++ le n 2, 0) := by
  unfold putS
  rw [if_pos ⟨by omega, by omega, by simp; omega⟩]
  rfl
theorem sb_take (s : ByteArray) (k : Nat) (h : k < s.size) : (sb s).take (k + 1) = (sb s).take k ++ [s[k]] := by
  rw [List.take_succ_eq_append_getElem (by rw [sb_len]; exact h)]
  rfl

set_option maxHeartbeats 400000 in
theorem rpt_ok (A : Option Addr) (bs : List UInt8) (l c B : Nat) (s : ByteArray) (w : World) (hr : Rd w B A (bvs bs)) (hl : l = bs.length) (hB : B ≤ w.heap.size) (hl2 : l ≤ 140737488200000) (h : (s.size : Int) ≤ 65535) :
    Calls Try.prog 33 #[.slice A l c, .string s] w (BE w (bs ++ le s.size 2 ++ sb s, 0)) := by
  obtain ⟨i0, hi, hz0, hz1, hz2⟩ := info_parts u8info
  have HL := hid hl
  clear hl
  have HP := hid (putS_two bs s.size (by omega))
  go_enter Try.func33, Try.ntmps33
  go_wp2_with (go_at_call 45; refine (rput_any A bs l c s.size B 2 _ hr HL.out hB (by omega) (hid (by omega))).mono ?_; rw [HP.out]; rintro e w1 hbe0; obtain ⟨A1, c1, rfl, hown, hbe⟩ := hbe0.len (n := l + 2) (by simp [le_len, HL.out]); clear hbe0)
  go_loopw [6, 8] (fun out i wr => ∃ k : Nat, k ≤ s.size ∧ i = .int .i64 k ∧ wr.ownsRow w.heap.size 5 1 out (l + 2 + k) (bvs (bs ++ le s.size 2 ++ (sb s).take k)) ∧ Below w.heap.size w wr) (fun _ i _ => s.size - (intOf i).toNat)
  case atStart =>
    refine ⟨0, by omega, rfl, ?_, hbe⟩
    simpa using hown
  case round =>
    obtain ⟨k, hk, rfl, hown, hbe'⟩ := hrel
    have hsz := hbe'.size
    by_cases hlt : k < s.size
    · go_wp2_with (with_reducible refine wpl_append rfl (.tmp 26) (.tmp 30) 60 rfl w.heap.size 5 i0 _ 1 1 Try.underlying60 hi hz0 hz1 hz2 rfl (by omega) u6 (l + 2 + k) _ rfl (hown.alloc _) (wr.heap.size + 1) (some ⟨wr.heap.size, 0, none⟩) 1 1 [.int .u8 (s[k].toNat : Int)] rfl ?_ ?_ ?_ ?_ ?_ ?_ ?_; intro v' w2 hown2 hb2 hg2)
      rotate_left
      · refine hid fun _ => ⟨_, _, rfl, by omega, ?_⟩
        intro j u hu
        match j, hu with
        | 0, hu => simp at hu; subst hu; simp
      · exact hid rfl
      · exact hid (by intro u hu; simp at hu; subst hu; rfl)
      · exact hid (le_maxLen (by omega))
      · exact hid (by omega)
      · exact hid (by simp; omega)
      go_roundw
      case rel =>
        refine ⟨k + 1, by omega, by go_num, ?_, (hbe'.alloc hsz _).trans hb2⟩
        rw [sb_take s k hlt, ← List.append_assoc, bvs_app (bs ++ le s.size 2 ++ _)]
        exact hown2
      case measure => simp [intOf]; omega
    · go_wp2_with fail
      go_ret2
      obtain rfl : k = s.size := by omega
      rw [List.take_of_length_le (by rw [sb_len]; omega)] at hown
      exact BE_own (by simp [le_len, HL.out, sb_len]; omega) hown hbe'

theorem rpt_any (A : Option Addr) (bs : List UInt8) (l c B : Nat) (s : ByteArray) (w : World) (hr : Rd w B A (bvs bs)) (hl : l = bs.length) (hB : B ≤ w.heap.size) (hl2 : l ≤ 140737488200000) :
    Calls Try.prog 33 #[.slice A l c, .string s] w (BE w (ptS bs (sb s))) := by
  unfold ptS
  rw [sb_len]
  by_cases h : 65535 < s.size
  · rw [if_pos h]
    exact rpt_long A l c s w (by omega)
  · rw [if_neg h]
    exact rpt_ok A bs l c B s w hr hl hB hl2 (by omega)
end Go.Proofs.Ytgphijkonmdehaa
