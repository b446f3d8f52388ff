/-
  The walk of package event's pieces.
-/
import Derived.Test.YtbofabmgfkploaaEach
namespace Go.Proofs.Ytbofabmgfkploaa
open Go.RowKit
set_option maxRecDepth 10000

def vlen : Value → Nat
  | .slice _ n _ => n
  | _ => 0
theorem own_shape' {w : World} {B : Nat} {e : TypeId} {v : Value} {n : Nat} {xs : List Value} (h : w.ownsRow B e 1 v n xs) :
    ∃ A c, v = .slice A n c ∧ n ≤ c ∧ xs.length = n ∧ Rd w w.heap.size A xs := own_shape h
theorem full_of {s : ByteArray} (h : ¬ s.size = 0) : s.toList.isEmpty = false := by
  rw [ByteArray.toList_eq]
  cases hl : s.data.toList with
  | nil => exact absurd (show s.size = 0 by rw [← sb_len, sb, hl]; rfl) h
  | cons _ _ => rfl
theorem empty_of {s : ByteArray} (h : s.size = 0) : s = ⟨#[]⟩ := by
  rcases s with ⟨d⟩
  have : d.size = 0 := h
  rw [Array.size_eq_zero_iff.1 this]
theorem pcs_nil (n k : Nat) : pcs n k [] = [] := by cases k <;> rfl
theorem pcs_step (n k : Nat) (s : ByteArray) (h : ¬ s.size = 0) (m : Nat) (hm : m = min n s.size) : pcs n (k + 1) (sb s) = sb (s.extract 0 m) :: pcs n k (sb (s.extract m s.size)) := by
  have hne : sb s ≠ [] := by intro e; have := sb_len s; rw [e] at this; simp at this; omega
  have hl := sb_len s
  rw [pcs, if_neg hne, sb_extract, sb_extract, Nat.sub_zero, List.drop_zero]
  have e1 : (sb s).take n = (sb s).take m := by
    rw [List.take_eq_take_iff]
    omega
  have e2 : ((sb s).drop m).take (s.size - m) = (sb s).drop n := by
    rw [List.take_of_length_le (by rw [List.length_drop]; omega)]
    by_cases h : n ≤ s.size
    · congr 1; omega
    · rw [List.drop_of_length_le (by omega), List.drop_of_length_le (by omega)]
  rw [e1, e2]

set_option maxHeartbeats 1000000 in
theorem pieces_any (s : ByteArray) (n : Nat) (w : World) (hn : 0 < n) (hn2 : n ≤ 64) (hs : s.size ≤ 140737488355328) :
    Calls Try.prog 66 #[.string s, .int .i64 (n : Int)] w fun e w' => ∃ A m c, e = .returned (.slice A m c) ∧ m = (pcs n 5 (sb s)).length ∧ m ≤ c ∧ Rd w' w'.heap.size A (rows Sc (pcs n 5 (sb s))) ∧ Below w.heap.size w w' := by
  obtain ⟨i0, hi, hz0, hz1, hz2⟩ := info_parts strInfo
  have HS := hid hs
  generalize hP : pcs n 5 (sb s) = P
  have HP0 := hid hP
  clear hP hs
  go_enter Try.func66, Try.ntmps66
  go_wp2_with fail
  go_loopw [0, 5] (fun sv l wr => ∃ (k : Nat) (ps : List (List UInt8)) (s' : ByteArray), k ≤ 5 ∧ sv = .string s' ∧ s'.size ≤ 140737488355328 ∧ wr.ownsRow w.heap.size 9 1 l k (rows Sc ps) ∧ Hid (P = ps ++ pcs n (5 - k) (sb s')) ∧ Below w.heap.size w wr) (fun _ l _ => 5 - vlen l)
  case atStart => exact ⟨0, [], s, by omega, rfl, HS.out, World.ownsRow_nil _ _ _ _, HP0.out.symm, Below.refl _ _⟩
  case round =>
    obtain ⟨k, ps, s', hk, rfl, hs', hown, HP, hbe⟩ := hrel
    have HBE := hid hbe
    have hsz := hbe.size
    obtain ⟨A, c, rfl, hkc, hlen, hrd⟩ := own_shape hown
    by_cases he : s'.size = 0
    · obtain rfl := empty_of he
      have HRD := hid hrd
      have HF : Hid (P = ps) := hid (by rw [HP.out, show sb ⟨#[]⟩ = [] from rfl, pcs_nil, List.append_nil])
      have HL := hid hlen
      clear hown hrd hbe hlen
      go_wp2_with fail
      go_ret
      rw [HF.out]
      have hl2 := HL.out
      rw [rows_len Sc_len, Nat.mul_one] at hl2
      exact ⟨A, k, c, rfl, hl2.symm, hkc, HRD.out, HBE.out⟩
    · have hne := full_of he
      by_cases h5 : k = 5
      · subst h5
        have HRD := hid hrd
        have HF : Hid (P = ps) := hid (by rw [HP.out, Nat.sub_self]; simp [pcs])
        have HL := hid hlen
        clear hown hrd hbe hlen
        go_wp2_with fail
        go_ret
        rw [HF.out]
        have hl2 := HL.out
        rw [rows_len Sc_len, Nat.mul_one] at hl2
        exact ⟨A, 5, c, rfl, hl2.symm, hkc, HRD.out, HBE.out⟩
      · have hk4 : (k : Int) ≤ 4 := by omega
        have hk5 : k < 5 := by omega
        have HNX := hid (fun m hm => pcs_step n (5 - (k + 1)) s' he m hm)
        have HOWN := hid hown
        clear hown hrd hbe hlen he
        by_cases hm : s'.size < n
        · have hm2 : ¬ ((n : Int) ≤ (s'.size : Int)) := by omega
          have hNX := HNX.out s'.size (by omega)
          have HNX2 : Hid (P = (ps ++ [sb s']) ++ pcs n (5 - (k + 1)) (sb (⟨#[]⟩ : ByteArray))) := hid (by
            have e1 : s'.extract 0 s'.size = s' := by simp
            have e2 : s'.extract s'.size s'.size = ⟨#[]⟩ := empty_of (by simp)
            rw [HP.out, show 5 - k = 5 - (k + 1) + 1 by omega, hNX, e1, e2]
            simp)
          have HRW : Hid (rows Sc ps ++ [.string s'] = rows Sc (ps ++ [sb s'])) := hid (by rw [rows_app]; simp [rows, Sc, mk_sb])
          have HSZ : Hid (((⟨#[]⟩ : ByteArray) : ByteArray).size ≤ 140737488355328) := hid (by first | (rw [ByteArray.size_extract]; omega) | (show (0 : Nat) ≤ _; omega))
          clear hNX HNX HP
          go_wp2_with (refine wpl_append rfl (.tmp 18) (.tmp 22) 86 rfl w.heap.size 9 i0 _ 1 16 Try.underlying86 hi hz0 hz1 hz2 rfl (by omega) (.slice A k c) k _ rfl (HOWN.out.alloc _) (wr.heap.size + 1) (some ⟨wr.heap.size, 0, none⟩) 1 1 [.string s'] rfl ?_ ?_ ?_ ?_ ?_ ?_ ?_; intro v' w2 hown2 hb2 hg2; rw [HRW.out] at hown2; have HO2 := hid hown2; have HB2 := hid hb2; clear hown2 hb2 hg2)
          rotate_left
          · refine hid fun _ => ⟨_, _, rfl, by omega, ?_⟩
            intro j u hu
            match j, hu with
            | 0, hu => simp at hu; subst hu; simp
          · exact hid (by first | trivial | rfl)
          · exact hid (by first | rfl | (intro u hu; simp at hu; subst hu; rfl))
          · exact hid (le_maxLen (by omega))
          · exact hid (by omega)
          · exact hid (by first | omega | (simp; omega))
          go_roundw
          case rel => exact ⟨k + 1, ps ++ [sb s'], _, by omega, rfl, HSZ.out, HO2.out, HNX2, (HBE.out.alloc hsz _).trans HB2.out⟩
          case measure =>
            obtain ⟨A', c', rfl, -, -, -⟩ := own_shape HO2.out
            simp [vlen]
            omega
        · have hm2 : (n : Int) ≤ (s'.size : Int) := by omega
          have hm3 : ¬ ((s'.size : Int) < (n : Int)) := by omega
          have hNX := HNX.out n (by omega)
          have HNX2 : Hid (P = (ps ++ [sb (s'.extract 0 n)]) ++ pcs n (5 - (k + 1)) (sb (s'.extract n s'.size))) := hid (by
            rw [HP.out, show 5 - k = 5 - (k + 1) + 1 by omega, hNX]
            simp)
          have HRW : Hid (rows Sc ps ++ [.string (s'.extract 0 n)] = rows Sc (ps ++ [sb (s'.extract 0 n)])) := hid (by rw [rows_app]; simp [rows, Sc, mk_sb])
          have HSZ : Hid (((s'.extract n s'.size) : ByteArray).size ≤ 140737488355328) := hid (by first | (rw [ByteArray.size_extract]; omega) | (show (0 : Nat) ≤ _; omega))
          clear hNX HNX HP
          go_wp2_with (refine wpl_append rfl (.tmp 18) (.tmp 22) 86 rfl w.heap.size 9 i0 _ 1 16 Try.underlying86 hi hz0 hz1 hz2 rfl (by omega) (.slice A k c) k _ rfl (HOWN.out.alloc _) (wr.heap.size + 1) (some ⟨wr.heap.size, 0, none⟩) 1 1 [.string (s'.extract 0 n)] rfl ?_ ?_ ?_ ?_ ?_ ?_ ?_; intro v' w2 hown2 hb2 hg2; rw [HRW.out] at hown2; have HO2 := hid hown2; have HB2 := hid hb2; clear hown2 hb2 hg2)
          rotate_left
          · refine hid fun _ => ⟨_, _, rfl, by omega, ?_⟩
            intro j u hu
            match j, hu with
            | 0, hu => simp at hu; subst hu; simp
          · exact hid (by first | trivial | rfl)
          · exact hid (by first | rfl | (intro u hu; simp at hu; subst hu; rfl))
          · exact hid (le_maxLen (by omega))
          · exact hid (by omega)
          · exact hid (by first | omega | (simp; omega))
          go_roundw
          case rel => exact ⟨k + 1, ps ++ [sb (s'.extract 0 n)], _, by omega, rfl, HSZ.out, HO2.out, HNX2, (HBE.out.alloc hsz _).trans HB2.out⟩
          case measure =>
            obtain ⟨A', c', rfl, -, -, -⟩ := own_shape HO2.out
            simp [vlen]
            omega
end Go.Proofs.Ytbofabmgfkploaa
