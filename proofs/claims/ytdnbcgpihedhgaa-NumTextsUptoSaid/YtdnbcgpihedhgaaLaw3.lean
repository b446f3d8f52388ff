/-
  The walk of NumTexts.
-/
import Derived.Test.YtdnbcgpihedhgaaLaw2
namespace Go.Proofs.Ytdnbcgpihedhgaa
open Go.RowKit

theorem le_two (k : Nat) (h : k ≤ 65535) : leV (le k 2) = k := by
  simp [le, leV]
  omega
theorem tt_pt (bs ss tail : List UInt8) (most : Int) (h : ss.length ≤ 65535) :
    ttS (bs ++ le ss.length 2 ++ ss ++ tail) bs.length most = if most < ss.length then ([], 0, 5) else (ss, (bs.length : Int) + 2 + ss.length, 0) := by
  have h1 : takeS (bs ++ le ss.length 2 ++ ss ++ tail) bs.length 2 = (ss.length, 0) := by
    unfold takeS
    rw [if_neg (by omega), if_neg (by simp [le_len]; omega)]
    simp only [Int.toNat_natCast, List.append_assoc, List.drop_left, Prod.mk.injEq, and_true]
    rw [show (2 : Int).toNat = (le ss.length 2).length from by rw [le_len]; rfl, List.take_left]
    exact le_two _ h
  unfold ttS
  rw [h1]
  simp only [ne_eq, not_true_eq_false, if_false]
  split
  · rfl
  · unfold ttN
    rw [if_neg (by simp [le_len]; omega)]
    simp only [Int.toNat_natCast, Prod.mk.injEq, and_true]
    have h2 : (bs ++ le ss.length 2 ++ ss ++ tail).drop (bs.length + 2) = ss ++ tail := by
      rw [List.append_assoc (bs ++ le ss.length 2)]
      rw [List.drop_append_of_le_length (by simp [le_len])]
      rw [List.drop_of_length_le (by simp [le_len])]
      rfl
    rw [h2, List.take_left]

set_option maxHeartbeats 800000 in
theorem texts_long (A T : Option Addr) (l c lt ct : Nat) (s : ByteArray) (most : Int) (w : World) (hs : (70000 : Int) < s.size) :
    Calls Try.prog 5 #[.slice A l c, .string s, .slice T lt ct, .int .i64 most] w (Yes w) := by
  go_enter Try.func5, Try.ntmps5
  go_wp2_with (go_at_call 8; refine (awake_any _).mono ?_; rintro e w1 ⟨rfl, hbe1⟩)
  go_ret
  exact ⟨rfl, hbe1⟩

set_option maxHeartbeats 800000 in
theorem texts_err (A T : Option Addr) (bs : List UInt8) (l c lt ct : Nat) (s : ByteArray) (most : Int) (w : World) (hr : Rd w w.heap.size A (bvs bs)) (hl : l = bs.length) (hl2 : l ≤ 1048576) (hs : (s.size : Int) ≤ 70000) (hs2 : 65535 < (s.size : Int)) :
    Calls Try.prog 5 #[.slice A l c, .string s, .slice T lt ct, .int .i64 most] w (Yes w) := by
  have P1 := fun (W : World) (h : Below w.heap.size w W) => pt_any A bs l c w.heap.size s W (hr.below h (Nat.le_refl _)) hl h.size (by omega)
  have P2 := fun (W : World) (h : Below w.heap.size w W) => rpt_any A bs l c w.heap.size s W (hr.below h (Nat.le_refl _)) hl h.size (by omega)
  have hp : ptS bs (sb s) = ([], 5) := by unfold ptS; rw [sb_len, if_pos (by omega)]
  simp only [hp] at P1 P2
  have H1 := hid P1
  have H2 := hid P2
  clear hp hl P1 P2
  go_enter Try.func5, Try.ntmps5
  go_wp2_with (first
    | (go_at_call 8; refine (awake_any _).mono ?_; rintro e w1 ⟨rfl, hbe1⟩)
    | (go_at_call 14; refine (H1.out _ hbe1).mono ?_; rintro e w2 hbe0; obtain ⟨A1, c1, rfl, hown1, hbe2⟩ := hbe0.len (n := 0) rfl; clear hbe0)
    | (go_at_call 15; refine (H2.out _ (hbe1.trans (hbe2.mono hbe1.size))).mono ?_; rintro e w3 hbe0; obtain ⟨A2, c2, rfl, hown2, hbe3⟩ := hbe0.len (n := 0) rfl; clear hbe0)
    | (go_at_call 11; refine (same_self (own_rd (own_below hown1 hbe3)) (own_rd hown2) rfl rfl).mono ?_; rintro e w4 ⟨rfl, rfl⟩))
  go_ret
  exact ⟨rfl, (hbe1.trans (hbe2.mono hbe1.size)).trans (hbe3.mono (Nat.le_trans hbe1.size hbe2.size))⟩

set_option maxHeartbeats 1600000 in
theorem texts_ok (A T : Option Addr) (bs ts : List UInt8) (l c lt ct : Nat) (s : ByteArray) (most : Int) (w : World) (hr : Rd w w.heap.size A (bvs bs)) (hl : l = bs.length) (hl2 : l ≤ 1048576) (hs2 : (s.size : Int) ≤ 65535)
    (hrt : Rd w w.heap.size T (bvs ts)) (hlt : lt = ts.length) (hlt2 : lt ≤ 1048576) :
    Calls Try.prog 5 #[.slice A l c, .string s, .slice T lt ct, .int .i64 most] w (Yes w) := by
  obtain ⟨i0, hi, hz0, hz1, hz2⟩ := info_parts u8info
  have P1 := fun (W : World) (h : Below w.heap.size w W) => pt_any A bs l c w.heap.size s W (hr.below h (Nat.le_refl _)) hl h.size (by omega)
  have P2 := fun (W : World) (h : Below w.heap.size w W) => rpt_any A bs l c w.heap.size s W (hr.below h (Nat.le_refl _)) hl h.size (by omega)
  have hp : ptS bs (sb s) = (bs ++ le (sb s).length 2 ++ sb s, 0) := by unfold ptS; rw [if_neg (by rw [sb_len]; omega)]
  simp only [hp] at P1 P2
  have H1 := hid P1
  have H2 := hid P2
  obtain ⟨m, hm⟩ : ∃ m, m = l + 2 + s.size := ⟨_, rfl⟩
  have HM : Hid ((bs ++ le (sb s).length 2 ++ sb s).length = m) := hid (by simp [le_len, sb_len]; omega)
  have hm1 : m ≤ 2097152 := by omega
  have PT : ∀ (W : World) (A1 : Option Addr) (c1 : Nat), Rd W W.heap.size A1 (bvs (bs ++ le (sb s).length 2 ++ sb s ++ ts)) → m + lt ≤ c1 →
      Calls Try.prog 16 #[.slice A1 (m + lt) c1, .int .i64 l, .int .i64 most] W (TE W (if most < s.size then ([], 0, 5) else (sb s, (l : Int) + 2 + s.size, 0))) := by
    intro W A1 c1 h1 h2
    have h := tt_any A1 _ (m + lt) c1 W.heap.size l most W h1 (by rw [List.length_append, HM.out, hlt]) (by omega) h2 (Nat.le_refl _)
    rw [hl, tt_pt bs (sb s) ts most (by rw [sb_len]; omega), sb_len] at h
    rw [hl]
    exact h
  have HMM := hid hm
  have HLT := hid hlt
  generalize hout : bs ++ le (sb s).length 2 ++ sb s = out at *
  have HT := hid PT
  clear hp hl P1 P2 hm hout PT hlt
  have hmost : (decide (most < s.size) = true) ∨ (decide (most < s.size) = false) := by cases decide (most < (s.size : Int)) <;> simp
  rcases hmost with hmost | hmost
  · have PT : ∀ (W : World) (A1 : Option Addr) (c1 : Nat), Rd W W.heap.size A1 (bvs (out ++ ts)) → m + lt ≤ c1 →
        Calls Try.prog 16 #[.slice A1 (m + lt) c1, .int .i64 l, .int .i64 most] W (TE W ([], 0, 5)) := by
      intro W A1 c1 h1 h2
      have h := HT.out W A1 c1 h1 h2
      rw [if_pos (by simpa using hmost)] at h
      exact h
    have HTT := hid PT
    clear PT HT
    go_enter Try.func5, Try.ntmps5
    go_wp2_with (first
      | (go_at_call 8; refine (awake_any _).mono ?_; rintro e w1 ⟨rfl, hbe1⟩)
      | (go_at_call 14; refine (H1.out _ hbe1).mono ?_; rintro e w2 hbe0; obtain ⟨A1, c1, rfl, hown1, hbe2⟩ := hbe0.len (n := m) HM.out; clear hbe0)
      | (go_at_call 15; refine (H2.out _ (hbe1.trans (hbe2.mono hbe1.size))).mono ?_; rintro e w3 hbe0; obtain ⟨A2, c2, rfl, hown2, hbe3⟩ := hbe0.len (n := m) HM.out; clear hbe0)
      | (go_at_call 11; refine (same_self (own_rd (own_below hown1 hbe3)) (own_rd hown2) HM.out.symm HM.out.symm).mono ?_; rintro e w4 ⟨rfl, rfl⟩)
      | (go_at_call 17; refine (rbytes_any A1 out m c1 w3.heap.size w3 (own_rd (own_below hown1 hbe3)) HM.out.symm (Nat.le_refl _) (by omega)).mono ?_; rintro e w5 ⟨g, rfl, hg, hrow, hbe5⟩; have hgo := hrow.own (B := w3.heap.size) (by have := hg.out; omega) (le_maxLen (by rw [bvs_len, HM.out]; omega)); rw [bvs_len, HM.out] at hgo)
      | (with_reducible refine wpl_append rfl (.tmp 53) (.tmp 54) 22 rfl w3.heap.size 5 i0 _ 1 1 Try.underlying22 hi hz0 hz1 hz2 rfl (by omega) (.slice (some ⟨g, 0, none⟩) m m) m _ rfl hgo w.heap.size T lt ct (bvs ts) rfl ?_ ?_ ?_ ?_ ?_ ?_ ?_; intro v6 w6 hown6 hb6 hg6; rw [← bvs_app] at hown6; obtain ⟨A6, c6, rfl, hcap6, _, hrd6⟩ := own_shape hown6)
      | (go_at_call 16; refine (HTT.out _ A6 c6 hrd6 hcap6).mono ?_; rintro e w7 ⟨rfl, hbe7⟩))
    rotate_left
    · exact hid (((((hrt.below hbe1 (Nat.le_refl _)).below hbe2 hbe1.size).below hbe3 (Nat.le_trans hbe1.size hbe2.size))).below hbe5 (Nat.le_trans hbe1.size (Nat.le_trans hbe2.size hbe3.size)))
    · exact hid (by rw [bvs_len, HLT.out]; omega)
    · exact hid (bvs_one ts)
    · exact hid (le_maxLen (by omega))
    · exact hid (by omega)
    · exact hid hbe5.size
    go_ret
    have s1 := hbe1.size
    have s2 := hbe2.size
    have s3 := hbe3.size
    have s5 := hbe5.size
    have s6 := hb6.size
    exact ⟨rfl, ((((hbe1.trans (hbe2.mono s1)).trans (hbe3.mono (by omega))).trans (hbe5.mono (by omega))).trans (hb6.mono (by omega))).trans (hbe7.mono (by omega))⟩
  · have PT : ∀ (W : World) (A1 : Option Addr) (c1 : Nat), Rd W W.heap.size A1 (bvs (out ++ ts)) → m + lt ≤ c1 →
        Calls Try.prog 16 #[.slice A1 (m + lt) c1, .int .i64 l, .int .i64 most] W fun e W' => e = .returned (.tuple #[.string s, .int .i64 ((l : Int) + 2 + s.size), .int .i64 0]) ∧ Below W.heap.size W W' := by
      intro W A1 c1 h1 h2
      have h := HT.out W A1 c1 h1 h2
      rw [if_neg (by simpa using hmost)] at h
      refine h.mono fun e W' ⟨he, hb⟩ => ⟨?_, hb⟩
      rw [he, mk_sb]
    have HTT := hid PT
    have hto : ((l : Int) + 2 + s.size == (m : Int)) = true := by have := HMM.out; simp; omega
    clear PT HT
    go_enter Try.func5, Try.ntmps5
    go_wp2_with (first
      | (go_at_call 8; refine (awake_any _).mono ?_; rintro e w1 ⟨rfl, hbe1⟩)
      | (go_at_call 14; refine (H1.out _ hbe1).mono ?_; rintro e w2 hbe0; obtain ⟨A1, c1, rfl, hown1, hbe2⟩ := hbe0.len (n := m) HM.out; clear hbe0)
      | (go_at_call 15; refine (H2.out _ (hbe1.trans (hbe2.mono hbe1.size))).mono ?_; rintro e w3 hbe0; obtain ⟨A2, c2, rfl, hown2, hbe3⟩ := hbe0.len (n := m) HM.out; clear hbe0)
      | (go_at_call 11; refine (same_self (own_rd (own_below hown1 hbe3)) (own_rd hown2) HM.out.symm HM.out.symm).mono ?_; rintro e w4 ⟨rfl, rfl⟩)
      | (go_at_call 17; refine (rbytes_any A1 out m c1 w3.heap.size w3 (own_rd (own_below hown1 hbe3)) HM.out.symm (Nat.le_refl _) (by omega)).mono ?_; rintro e w5 ⟨g, rfl, hg, hrow, hbe5⟩; have hgo := hrow.own (B := w3.heap.size) (by have := hg.out; omega) (le_maxLen (by rw [bvs_len, HM.out]; omega)); rw [bvs_len, HM.out] at hgo)
      | (with_reducible refine wpl_append rfl (.tmp 53) (.tmp 54) 22 rfl w3.heap.size 5 i0 _ 1 1 Try.underlying22 hi hz0 hz1 hz2 rfl (by omega) (.slice (some ⟨g, 0, none⟩) m m) m _ rfl hgo w.heap.size T lt ct (bvs ts) rfl ?_ ?_ ?_ ?_ ?_ ?_ ?_; intro v6 w6 hown6 hb6 hg6; rw [← bvs_app] at hown6; obtain ⟨A6, c6, rfl, hcap6, _, hrd6⟩ := own_shape hown6)
      | (go_at_call 16; refine (HTT.out _ A6 c6 hrd6 hcap6).mono ?_; rintro e w7 ⟨rfl, hbe7⟩))
    rotate_left
    · exact hid (((((hrt.below hbe1 (Nat.le_refl _)).below hbe2 hbe1.size).below hbe3 (Nat.le_trans hbe1.size hbe2.size))).below hbe5 (Nat.le_trans hbe1.size (Nat.le_trans hbe2.size hbe3.size)))
    · exact hid (by rw [bvs_len, HLT.out]; omega)
    · exact hid (bvs_one ts)
    · exact hid (le_maxLen (by omega))
    · exact hid (by omega)
    · exact hid hbe5.size
    go_ret
    have s1 := hbe1.size
    have s2 := hbe2.size
    have s3 := hbe3.size
    have s5 := hbe5.size
    have s6 := hb6.size
    exact ⟨rfl, ((((hbe1.trans (hbe2.mono s1)).trans (hbe3.mono (by omega))).trans (hbe5.mono (by omega))).trans (hb6.mono (by omega))).trans (hbe7.mono (by omega))⟩

theorem texts_any (A T : Option Addr) (bs ts : List UInt8) (l c lt ct : Nat) (s : ByteArray) (most : Int) (w : World) (hr : Rd w w.heap.size A (bvs bs)) (hl : l = bs.length) (hl2 : l ≤ 1048576)
    (hrt : Rd w w.heap.size T (bvs ts)) (hlt : lt = ts.length) (hlt2 : lt ≤ 1048576) :
    Calls Try.prog 5 #[.slice A l c, .string s, .slice T lt ct, .int .i64 most] w (Yes w) := by
  by_cases h1 : (70000 : Int) < s.size
  · exact texts_long A T l c lt ct s most w h1
  · by_cases h2 : (65535 : Int) < s.size
    · exact texts_err A T bs l c lt ct s most w hr hl hl2 (by omega) h2
    · exact texts_ok A T bs ts l c lt ct s most w hr hl hl2 (by omega) hrt hlt hlt2
end Go.Proofs.Ytdnbcgpihedhgaa
