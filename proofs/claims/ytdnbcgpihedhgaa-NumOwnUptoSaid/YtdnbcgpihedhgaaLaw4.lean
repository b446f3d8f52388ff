/-
  The walk of NumOwn.
-/
import Derived.Test.YtdnbcgpihedhgaaLaw3
namespace Go.Proofs.Ytdnbcgpihedhgaa
open Go.RowKit

def tail8 : List UInt8 := [1, 2, 3, 4, 5, 6, 7, 8]

theorem own_lt {w : World} {B n : Nat} {e : TypeId} {A : Option Addr} {c i : Nat} {xs : List Value} (h : w.ownsRow B e 1 (.slice A n c) n xs) (hi : i < n) :
    ∃ g u, A = some ⟨g, 0, none⟩ ∧ B ≤ g ∧ w.cell? ⟨g, i, none⟩ = some u ∧ w.frozen? ⟨g, i, none⟩ = false ∧ ∀ v, (w.setCell ⟨g, i, none⟩ v).ownsRow B e 1 (.slice A n c) n (xs.set i v) := by
  have hl : xs.length = n := by have := h.1; omega
  rcases h.2 with ⟨_, h0⟩ | ⟨g, cap, cur, hv, hb, r⟩
  · omega
  · simp only [Value.slice.injEq, true_and] at hv
    obtain ⟨rfl, rfl⟩ := hv
    exact ⟨g, xs[i], rfl, hb, by rw [h.cellAt i (by omega)]; exact List.getElem?_eq_getElem (by omega), h.frozenAt i, fun v => (h.stored i v).1⟩

set_option maxHeartbeats 1600000 in
theorem own_any (A : Option Addr) (bs : List UInt8) (l c : Nat) (s : ByteArray) (w : World) (hr : Rd w w.heap.size A (bvs bs)) (hl : l = bs.length) (hl2 : l ≤ 1048576) (hs : s.size ≤ 1048576) :
    Calls Try.prog 7 #[.slice A l c, .string s] w (Yes w) := by
  obtain ⟨i0, hi, hz0, hz1, hz2⟩ := info_parts u8info
  have HL := hid hl
  have PB := fun (W : World) (h : Below w.heap.size w W) => rbytes_any A bs l c w.heap.size W (hr.below h (Nat.le_refl _)) hl h.size (by omega)
  have HB := hid PB
  have t8 : bvs tail8 = [.int .u8 1, .int .u8 2, .int .u8 3, .int .u8 4, .int .u8 5, .int .u8 6, .int .u8 7, .int .u8 8] := by simp [bvs, tail8, bv]
  have HT8 := hid t8
  have PP : ∀ (W : World) (A1 : Option Addr) (c1 : Nat), Rd W W.heap.size A1 (bvs bs) → Calls Try.prog 9 #[.slice A1 l c1, .int .u64 7, .int .i64 8] W fun e W' =>
      ∃ A c, e = .returned (.tuple #[.slice A (l + 8) c, .int .i64 0]) ∧ W'.ownsRow W.heap.size 5 1 (.slice A (l + 8) c) (l + 8) (bvs (bs ++ le 7 8)) ∧ Below W.heap.size W W' := by
    intro W A1 c1 h
    have h2 := put_any A1 bs l c1 7 W.heap.size 8 W h hl (Nat.le_refl _) (by omega)
    have e : putS bs 7 8 = (bs ++ le 7 8, 0) := by unfold putS; rw [if_pos ⟨by omega, by omega, by decide⟩]; rfl
    rw [e] at h2
    exact h2.mono fun e W' hh => hh.len (by simp [le_len, hl])
  have HP := hid PP
  obtain ⟨out, x, hp⟩ : ∃ out x, ptS bs (sb s) = (out, x) := ⟨_, _, rfl⟩
  have hpl : out.length ≤ 2200000 := by
    unfold ptS at hp
    split at hp
    · cases hp; simp
    · cases hp; simp [le_len, sb_len]; omega
  obtain ⟨m, hm⟩ : ∃ m, out.length = m := ⟨_, rfl⟩
  have PT : ∀ (W : World) (A1 : Option Addr) (c1 : Nat), Rd W W.heap.size A1 (bvs bs) → Calls Try.prog 14 #[.slice A1 l c1, .string s] W fun e W' =>
      ∃ A c, e = .returned (.tuple #[.slice A m c, .int .i64 x]) ∧ W'.ownsRow W.heap.size 5 1 (.slice A m c) m (bvs out) ∧ Below W.heap.size W W' := by
    intro W A1 c1 h
    have h2 := pt_any A1 bs l c1 W.heap.size s W h hl (Nat.le_refl _) (by omega)
    rw [hp] at h2
    exact h2.mono fun e W' hh => hh.len hm
  have HT := hid PT
  have hm2 : m ≤ 2200000 := by omega
  clear hl PB t8 PP hp PT hpl hm
  go_enter Try.func7, Try.ntmps7
  go_wp2_with (first
    | (go_at_call 8; refine (awake_any _).mono ?_; rintro e w1 ⟨rfl, hbe1⟩)
    | (go_at_call 17; refine (HB.out _ hbe1).mono ?_; rintro e w2 ⟨g, rfl, hg, hrow, hbe2⟩; have hgo := hrow.own (B := w1.heap.size) (by have := hg.out; omega) (le_maxLen (by rw [bvs_len, ← HL.out]; omega)); rw [bvs_len, ← HL.out] at hgo; have s2 := hbe2.size)
    | (with_reducible refine wpl_append rfl (.tmp 16) (.tmp 17) 22 rfl w1.heap.size 5 i0 _ 1 1 Try.underlying22 hi hz0 hz1 hz2 rfl (by omega) (.slice (some ⟨g, 0, none⟩) l l) l _ rfl (hgo.alloc _) (w2.heap.size + 1) (some ⟨w2.heap.size, 0, none⟩) 8 8 (bvs tail8) rfl ?_ ?_ ?_ ?_ ?_ ?_ ?_; intro v3 w3 hown3 hb3 hg3; rw [← bvs_app] at hown3; obtain ⟨A3, c3, rfl, hcap3, _, hrd3⟩ := own_shape hown3; have hcI : (l : Int) ≤ c3 := (by omega))
    | (go_at_call 9; refine (HP.out w3 A3 c3 (by have h := hrd3.take l; rw [bvs_app, List.take_append_of_le_length (by rw [bvs_len, HL.out]; omega), List.take_of_length_le (by rw [bvs_len, HL.out]; omega)] at h; exact h)).mono ?_; rintro e w4 ⟨A4, c4, rfl, hown4, hbe4⟩)
    | (go_at_call 14; refine (HT.out w4 A3 c3 (by have h := hrd3.take l; rw [bvs_app, List.take_append_of_le_length (by rw [bvs_len, HL.out]; omega), List.take_of_length_le (by rw [bvs_len, HL.out]; omega)] at h; exact (h.below hbe4 (Nat.le_refl _)).more hbe4.size)).mono ?_; rintro e w5 ⟨A5, c5, rfl, hown5, hbe5⟩))
  rotate_left
  · exact hid (by rw [HT8.out]; exact (Row.new _ _ _).rd (by omega))
  · exact hid (by rw [bvs_len]; rfl)
  · exact hid (bvs_one _)
  · exact hid (le_maxLen (by omega))
  · exact hid (by omega)
  · exact hid (by simp; omega)
  have s3 := hb3.size
  simp at s3
  have s4 := hbe4.size
  have s1 := hbe1.size
  have s5 := hbe5.size
  have hlt4 : ∀ g, A4 = some ⟨g, 0, none⟩ → g < w4.heap.size := fun g e => by
    subst e
    exact (hown4.lt g rfl).2
  have HLT4 := hid hlt4
  have HOWN3 := hid hown3
  have HRD3 := hid hrd3
  have HROW := hid hrow
  have HOWN4 := hid (own_below hown4 hbe5)
  clear hlt4 hown3 hrd3 hrow hgo hown4 hg3
  go_loopw [11] (fun i wr => ∃ k : Nat, k ≤ l + 8 ∧ i = .int .i64 k ∧ (∃ xs, wr.ownsRow w3.heap.size 5 1 (.slice A4 (l + 8) c4) (l + 8) xs) ∧ wr.ownsRow w4.heap.size 5 1 (.slice A5 m c5) m (bvs out) ∧ Below w3.heap.size w3 wr) (fun i _ => l + 8 - (intOf i).toNat)
  case atStart => exact ⟨0, by omega, rfl, ⟨_, HOWN4.out⟩, hown5, hbe4.trans (hbe5.mono s4)⟩
  case round =>
    obtain ⟨k, hk, rfl, ⟨xs, hx⟩, hy, hbe⟩ := hrel
    by_cases hlt : k < l + 8
    · obtain ⟨g4, u, rfl, hg4, hc, hf, hset⟩ := own_lt hx hlt
      have HX := hid (hset (.int .u8 99))
      have hg4' := HLT4.out g4 rfl
      clear hset hx
      have hy' := ownsRow_setCell_below hy (a := ⟨g4, k, none⟩) hg4' (.int .u8 99)
      have hbe' := hbe.setCell (p := ⟨g4, k, none⟩) hg4 (.int .u8 99)
      clear hy hbe
      go_wp2_with fail
      go_roundw
      case rel => exact ⟨k + 1, by omega, by go_num, ⟨_, HX.out⟩, hy', hbe'⟩
      case measure => simp [intOf]; omega
    · obtain ⟨xs5, hx5⟩ : ∃ xs, wr.ownsRow w4.heap.size 5 1 (.slice A5 m c5) m xs := ⟨_, hy⟩
      have HBE6 := hid hbe
      clear hx hy hbe
      obtain ⟨wo, hwo⟩ : ∃ wo : World, wo = wr := ⟨_, rfl⟩
      go_wp2_with fail
      go_loopw [12] (fun i wr => ∃ k : Nat, k ≤ m ∧ i = .int .i64 k ∧ (∃ xs, wr.ownsRow w4.heap.size 5 1 (.slice A5 m c5) m xs) ∧ Below w3.heap.size w3 wr) (fun i _ => m - (intOf i).toNat)
      case atStart => exact ⟨0, by omega, rfl, ⟨xs5, hx5⟩, HBE6.out⟩
      case round =>
        obtain ⟨k, hk, rfl, ⟨xs6, hx6⟩, hbe6⟩ := hrel
        by_cases hlt6 : k < m
        · obtain ⟨g5, u, rfl, hg5, hc, hf, hset⟩ := own_lt hx6 hlt6
          have HX6 := hid (hset (.int .u8 98))
          have hbe6' := hbe6.setCell (p := ⟨g5, k, none⟩) (by show w3.heap.size ≤ g5; omega) (.int .u8 98)
          clear hset hx6 hbe6
          go_wp2_with fail
          go_roundw
          case rel => exact ⟨k + 1, by omega, by go_num, ⟨_, HX6.out⟩, hbe6'⟩
          case measure => simp [intOf]; omega
        · have s6 := hbe6.size
          have hbw : Below w.heap.size w wr := (((hbe1.trans (hbe2.mono hbe1.size)).alloc (by omega) _).trans (hb3.mono hbe1.size)).trans (hbe6.mono (by omega))
          have HOWN6 := hid (own_below HOWN3.out hbe6)
          clear hx6
          go_wp2_with (first
            | (go_at_call 17; refine (HB.out _ hbw).mono ?_; rintro e w7 ⟨g7, rfl, hg7, hrow7, hbe7⟩; have hgo7 := hrow7.own (B := wr.heap.size) (by have := hg7.out; omega) (le_maxLen (by rw [bvs_len, ← HL.out]; omega)); rw [bvs_len, ← HL.out] at hgo7; have s7 := hbe7.size)
            | (with_reducible refine wpl_append rfl _ _ 22 rfl wr.heap.size 5 i0 _ 1 1 Try.underlying22 hi hz0 hz1 hz2 rfl (by omega) (.slice (some ⟨g7, 0, none⟩) l l) l _ rfl (hgo7.alloc _) (w7.heap.size + 1) (some ⟨w7.heap.size, 0, none⟩) 8 8 (bvs tail8) rfl ?_ ?_ ?_ ?_ ?_ ?_ ?_; intro v8 w8 hown8 hb8 hg8; rw [← bvs_app] at hown8; obtain ⟨A8, c8, rfl, hcap8, _, hrd8⟩ := own_shape hown8)
            | (go_at_call 11; refine (same_self (own_rd (own_below HOWN6.out ((hbe7.alloc s7 _).trans hb8))) hrd8 (by simp [tail8, HL.out]) (by simp [tail8, HL.out])).mono ?_; rintro e w9 ⟨rfl, rfl⟩))
          rotate_left
          · exact hid (by rw [HT8.out]; exact (Row.new _ _ _).rd (by omega))
          · exact hid (by rw [bvs_len]; rfl)
          · exact hid (bvs_one _)
          · exact hid (le_maxLen (by omega))
          · exact hid (by omega)
          · exact hid (by simp; omega)
          go_ret
          exact ⟨rfl, hbw.trans (((hbe7.alloc s7 _).trans hb8).mono (by omega))⟩
end Go.Proofs.Ytdnbcgpihedhgaa
