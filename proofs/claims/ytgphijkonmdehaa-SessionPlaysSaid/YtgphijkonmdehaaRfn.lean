/-
  The walks of the document's Fits, Place, Look, Verdict and Note.
-/
import Derived.Test.YtgphijkonmdehaaDoes
namespace Go.Proofs.Ytgphijkonmdehaa
open Go.RowKit
set_option maxRecDepth 10000

theorem fits_yes (n l : Int) (w : World) (h1 : l ≤ n) (h2 : n ≤ 72057594037927935) : Calls Try.prog 39 #[.int .i64 n, .int .i64 l] w fun e w' => e = .returned (.bool true) ∧ w' = w := by
  go_enter Try.func39, Try.ntmps39
  go_wp2_with fail
  go_ret
  exact ⟨rfl, rfl⟩
theorem fits_no (n l : Int) (w : World) (h : ¬ (l ≤ n ∧ n ≤ 72057594037927935)) : Calls Try.prog 39 #[.int .i64 n, .int .i64 l] w fun e w' => e = .returned (.bool false) ∧ w' = w := by
  by_cases h1 : n < l
  · clear h
    go_enter Try.func39, Try.ntmps39
    go_wp2_with fail
    go_ret
    exact ⟨rfl, rfl⟩
  · have h3 : l ≤ n := by omega
    have h4 : decide (n ≤ 72057594037927935) = false := decide_eq_false (by omega)
    clear h h1
    go_enter Try.func39, Try.ntmps39
    go_wp2_with fail
    go_ret
    first | exact ⟨rfl, rfl⟩ | (refine ⟨?_, rfl⟩; show Ending.returned (.bool (decide (n ≤ 72057594037927935))) = _; rw [h4])
section
variable (p : Nat) (v : Value) (T : List Ss) (c s r o : Int) (t : ByteArray) (w : World) (h : HasT w 29 p v T)
include h in
set_option maxHeartbeats 1000000 in
theorem place_any : Calls Try.prog 28 #[.pointer (some ⟨p, 0, none⟩), .int .i64 c] w fun e w' => e = .returned (.int .i64 (idx T c)) ∧ w' = w := by
  obtain ⟨A, cc, ev, hnc, -⟩ := h.shape
  have hc0 := h.c0
  rw [ev] at hc0
  by_cases h0 : T.length = 0
  · have hi : idx T c = -1 := by
      unfold idx
      rw [if_neg (by omega)]
    rw [hi]
    rw [h0] at hc0
    clear h h0 hi ev hnc
    go_enter Try.func28, Try.ntmps28
    go_wp2_with fail
    go_loopw [5] (fun i wr => i = .int .i64 0 ∧ wr = w) (fun _ _ => 0)
    case atStart => exact ⟨rfl, rfl⟩
    case round =>
      obtain ⟨rfl, rfl⟩ := hrel
      go_wp2_with fail
      go_ret
      exact ⟨rfl, rfl⟩
  obtain ⟨g, cap, e3, -, hg⟩ := own_some h.own (by omega)
  rw [ev] at e3
  simp only [Value.slice.injEq, true_and] at e3
  obtain ⟨rfl, rfl⟩ := e3
  have HCE := hid (fun k (hk : k < T.length) => show w.cell? ⟨g, k * 5, none⟩ = some (.int .i64 T[k].c) from h.cell hg k 0 hk (by decide))
  have HNF : Hid (pl T c = T.length → idx T c = -1) := hid fun e => by
    unfold idx
    rw [if_neg (by omega)]
  have HF : Hid (∀ k, k < T.length → pl T c = k → idx T c = (k : Int)) := hid fun k hk e => by
    unfold idx
    rw [e, if_pos hk]
  have hw := h.wf.le
  generalize idx T c = res at *
  obtain ⟨n, hn⟩ : ∃ n, T.length = n := ⟨_, rfl⟩
  have HN := hid hn
  rw [hn] at hc0 hw
  clear h ev hg hn h0 hnc
  go_enter Try.func28, Try.ntmps28
  go_wp2_with fail
  go_loopw [5] (fun i wr => ∃ k : Nat, k ≤ n ∧ i = .int .i64 (k : Int) ∧ Hid (k ≤ pl T c) ∧ wr = w) (fun i _ => n - (intOf i).toNat)
  case atStart => exact ⟨0, by omega, rfl, hid (Nat.zero_le _), rfl⟩
  case round =>
    obtain ⟨k, hk, rfl, HK, rfl⟩ := hrel
    have hk0 : (0 : Int) ≤ (k : Int) := by omega
    by_cases hlt : k < n
    · have hkl : k < T.length := by rw [HN.out]; exact hlt
      have hck := HCE.out k hkl
      have hk1 : (k : Int) < (n : Int) := by omega
      by_cases he : T[k].c = c
      · have HAT := hid (HF.out k hkl (pl_this HK.out hkl he))
        have q1 : (T[k].c == c) = true := beq_iff_eq.2 he
        generalize T[k].c = xc at *
        clear he
        go_wp2_with fail
        go_ret
        rw [HAT.out]
        exact ⟨rfl, rfl⟩
      · have HAT : Hid (k + 1 ≤ pl T c) := hid (by
          rcases Nat.lt_or_ge k (pl T c) with h | h
          · omega
          · have e : pl T c = k := Nat.le_antisymm h HK.out
            have h2 := pl_here (T := T) (c := c) (by rw [e]; exact hkl)
            simp only [e] at h2
            exact absurd h2 he)
        have q1 : (T[k].c == c) = false := beq_eq_false_iff_ne.2 he
        generalize T[k].c = xc at *
        clear he
        go_wp2_with fail
        exact ⟨⟨k + 1, by omega, by go_num, hid HAT.out, by first | rfl | trivial⟩, by simp [intOf]; omega⟩
    · obtain rfl : k = n := by omega
      have HAT := hid (HNF.out (by have := HK.out; have := pl_le T c; have := HN.out; omega))
      have hk1 : ¬ (k : Int) < (k : Int) := by omega
      go_wp2_with fail
      go_ret
      rw [HAT.out]
      exact ⟨rfl, rfl⟩
include h in
set_option maxHeartbeats 400000 in
theorem rlook_no (hno : ¬ pl T c < T.length) : Calls Try.prog 13 #[.pointer (some ⟨p, 0, none⟩), .int .i64 c] w (LK w ss0 false) := by
  have HZ := hid ssSize
  have hi : idx T c = -1 := by unfold idx; rw [if_neg hno]
  have HP := hid (fun W (hW : Below w.heap.size w W) => place_any p v T c W (h.below hW))
  rw [hi] at HP
  have HR0 := hid (show Row (w.alloc (.cells #[.int .i64 0, .int .i64 0, .int .i64 0, .int .i64 0, .string ⟨#[]⟩] 37)) w.heap.size 37 ss0.cells from Row.new _ _ _)
  clear h hno hi
  go_enter Try.func13, Try.ntmps13
  go_wp2_with (first
    | (go_at_call 28; refine (HP.out _ ((Below.refl _ _).alloc (Nat.le_refl _) _)).mono ?_; rintro e w2 ⟨rfl, rfl⟩)
    | (refine wpl_store_st rfl (.tmp 4) (.tmp 12) rfl HZ.out w.heap.size ss0.cells ss0.cells rfl rfl HR0.out ?_ (hid rfl) (hid rfl) (hid rfl); intro w3 hr3 hg3))
  refine bodyPost_ret (results_cell1 rfl _ _ w.heap.size 37 ss0.cells.toArray (0, 0) _ (.bool false) rfl rfl hr3.arr' Try.underlying37 rfl HZ.out) rfl ⟨rfl, ?_⟩
  exact ((Below.refl _ _).alloc (Nat.le_refl _) _).trans (below_grown hg3 (Nat.le_refl _) (by simp))
include h in
set_option maxHeartbeats 400000 in
theorem rlook_yes (k : Nat) (hk : pl T c = k) (hkn : k < T.length) : Calls Try.prog 13 #[.pointer (some ⟨p, 0, none⟩), .int .i64 c] w (LK w T[k] true) := by
  have HZ := hid ssSize
  obtain ⟨g, cap, ev, hcap, hg⟩ := own_some h.own (by omega : 0 < T.length)
  have hi : idx T c = (k : Int) := by unfold idx; rw [hk, if_pos hkn]
  have HP := hid (fun W (hW : Below w.heap.size w W) => place_any p v T c W (h.below hW))
  rw [hi] at HP
  have hc0 := fun W (hW : Below w.heap.size w W) => (h.below hW).c0
  rw [ev] at hc0
  have HC0 := hid hc0
  have HRG := hid (fun W (hW : Below w.heap.size w W) => (h.below hW).range hg k hkn)
  have HR0 := hid (show Row (w.alloc (.cells #[.int .i64 0, .int .i64 0, .int .i64 0, .int .i64 0, .string ⟨#[]⟩] 37)) w.heap.size 37 ss0.cells from Row.new _ _ _)
  unfold LK
  have HC5 : Hid ((Ss.cells T[k]).length = 5) := hid (Ss.len _)
  have HC1 : Hid ((Ss.cells T[k]).all (·.oneCell') = true) := hid (Ss.one _)
  generalize Ss.cells T[k] = X at *
  have hk0 : (0 : Int) ≤ (k : Int) := by omega
  have hk1 : (k : Int) < (T.length : Int) := by omega
  generalize T.length = n at *
  clear h hk hg hi hc0 ev
  have hcw := HC0.out _ ((Below.refl _ _).alloc (Nat.le_refl _) (.cells #[.int .i64 0, .int .i64 0, .int .i64 0, .int .i64 0, .string ⟨#[]⟩] 37))
  have HRG2 := hid (HRG.out _ ((Below.refl _ _).alloc (Nat.le_refl _) (.cells #[.int .i64 0, .int .i64 0, .int .i64 0, .int .i64 0, .string ⟨#[]⟩] 37)))
  go_enter Try.func13, Try.ntmps13
  go_wp2_with (first
    | (go_at_call 28; refine (HP.out _ ((Below.refl _ _).alloc (Nat.le_refl _) _)).mono ?_; rintro e w2 ⟨rfl, rfl⟩)
    | (refine wpList_load_mid rfl 37 (.tmp 18) rfl g (k * 5) rfl X _ HRG2.out Try.underlying37 rfl (by rw [HC5.out]; exact HZ.out) ?_)
    | (refine wpl_store_st rfl (.tmp 4) (.tmp 19) rfl HZ.out w.heap.size ss0.cells X rfl rfl HR0.out ?_ (hid rfl) (hid HC5.out) (hid HC1.out); intro w4 hr4 hg4))
  refine bodyPost_ret (results_cell1 rfl _ _ w.heap.size 37 X.toArray (0, 0) _ (.bool true) rfl rfl hr4.arr' Try.underlying37 rfl (by rw [List.size_toArray, HC5.out]; exact HZ.out)) rfl ⟨rfl, ?_⟩
  exact ((Below.refl _ _).alloc (Nat.le_refl _) _).trans (below_grown hg4 (Nat.le_refl _) (by simp))
include h in
theorem rlook_has : Calls Try.prog 13 #[.pointer (some ⟨p, 0, none⟩), .int .i64 c] w (LK w (look T c) (looks T c)) := by
  unfold look looks
  by_cases hk : pl T c < T.length
  · rw [if_pos hk, decide_eq_true hk, at_get hk]
    exact rlook_yes p v T c w h _ rfl hk
  · rw [if_neg hk, decide_eq_false hk]
    exact rlook_no p v T c w h hk
include h in
set_option maxHeartbeats 400000 in
theorem rver_no (hno : ¬ pl T c < T.length) : Calls Try.prog 25 #[.pointer (some ⟨p, 0, none⟩), .int .i64 c, .int .i64 s, .int .i64 r] w (VE w (.int .i64 5)) := by
  have HL := hid (rlook_no p v T c w h hno)
  have HZ := hid ssSize
  clear h hno
  go_enter Try.func25, Try.ntmps25
  go_wp2_with (first
    | (go_at_call 13; refine HL.out.mono ?_; rintro e w2 ⟨rfl, hb2⟩)
    | (refine wpl_store_st rfl (.tmp 9) (.tmp 15) rfl HZ.out w2.heap.size ss0.cells ss0.cells rfl rfl (Row.new _ _ _) ?_ (hid rfl) (hid rfl) (hid rfl); intro w3 hr3 hg3; have hb3 : Below w2.heap.size w2 w3 := ((Below.refl _ _).alloc (Nat.le_refl _) _).trans (below_grown hg3 (Nat.le_refl _) (by simp))))
  go_ret
  exact ⟨rfl, hb2.trans (hb3.mono hb2.size)⟩
include h in
set_option maxHeartbeats 400000 in
theorem rver_other (k : Nat) (hk : pl T c = k) (hkn : k < T.length) (hs : T[k].s ≠ s) : Calls Try.prog 25 #[.pointer (some ⟨p, 0, none⟩), .int .i64 c, .int .i64 s, .int .i64 r] w (VE w (.int .i64 5)) := by
  have HL := hid (rlook_yes p v T c w h k hk hkn)
  have HZ := hid ssSize
  unfold LK at HL
  have HC5 : Hid ((Ss.cells T[k]).length = 5) := hid (Ss.len _)
  have HC1 : Hid ((Ss.cells T[k]).all (·.oneCell') = true) := hid (Ss.one _)
  have HX1 : Hid ((Ss.cells T[k])[1]? = some (.int .i64 T[k].s)) := hid rfl
  have HX2 : Hid ((Ss.cells T[k])[2]? = some (.int .i64 T[k].r)) := hid rfl
  obtain ⟨hx1, hx2⟩ := (h.wf.ok T[k] (List.getElem_mem hkn)).r
  generalize T[k].s = xs at *
  generalize T[k].r = xr at *
  generalize Ss.cells T[k] = X at *
  clear h hk hkn
  have e2 : (xs != s) = true := bne_iff_ne.2 hs
  clear hs
  go_enter Try.func25, Try.ntmps25
  go_wp2_with (first
    | (go_at_call 13; refine HL.out.mono ?_; rintro e w2 ⟨rfl, hb2⟩)
    | (refine wpl_store_st rfl (.tmp 9) (.tmp 15) rfl HZ.out w2.heap.size ss0.cells X rfl rfl (Row.new _ _ _) ?_ (hid rfl) (hid HC5.out) (hid HC1.out); intro w3 hr3 hg3; have hb3 : Below w2.heap.size w2 w3 := ((Below.refl _ _).alloc (Nat.le_refl _) _).trans (below_grown hg3 (Nat.le_refl _) (by simp)); have hc1 := hr3.at_ 1 _ HX1.out; have hc2 := hr3.at_ 2 _ HX2.out))
  go_ret
  exact ⟨rfl, hb2.trans (hb3.mono hb2.size)⟩
include h in
set_option maxHeartbeats 400000 in
theorem rver_again (k : Nat) (hk : pl T c = k) (hkn : k < T.length) (hs : T[k].s = s) (hr : r = T[k].r) : Calls Try.prog 25 #[.pointer (some ⟨p, 0, none⟩), .int .i64 c, .int .i64 s, .int .i64 r] w (VE w (.int .i64 2)) := by
  have HL := hid (rlook_yes p v T c w h k hk hkn)
  have HZ := hid ssSize
  unfold LK at HL
  have HC5 : Hid ((Ss.cells T[k]).length = 5) := hid (Ss.len _)
  have HC1 : Hid ((Ss.cells T[k]).all (·.oneCell') = true) := hid (Ss.one _)
  have HX1 : Hid ((Ss.cells T[k])[1]? = some (.int .i64 T[k].s)) := hid rfl
  have HX2 : Hid ((Ss.cells T[k])[2]? = some (.int .i64 T[k].r)) := hid rfl
  obtain ⟨hx1, hx2⟩ := (h.wf.ok T[k] (List.getElem_mem hkn)).r
  generalize T[k].s = xs at *
  generalize T[k].r = xr at *
  generalize Ss.cells T[k] = X at *
  clear h hk hkn
  have e2 : (xs != s) = false := by rw [hs]; simp
  have e3 : (r == xr) = true := beq_iff_eq.2 hr
  clear hs hr
  go_enter Try.func25, Try.ntmps25
  go_wp2_with (first
    | (go_at_call 13; refine HL.out.mono ?_; rintro e w2 ⟨rfl, hb2⟩)
    | (refine wpl_store_st rfl (.tmp 9) (.tmp 15) rfl HZ.out w2.heap.size ss0.cells X rfl rfl (Row.new _ _ _) ?_ (hid rfl) (hid HC5.out) (hid HC1.out); intro w3 hr3 hg3; have hb3 : Below w2.heap.size w2 w3 := ((Below.refl _ _).alloc (Nat.le_refl _) _).trans (below_grown hg3 (Nat.le_refl _) (by simp)); have hc1 := hr3.at_ 1 _ HX1.out; have hc2 := hr3.at_ 2 _ HX2.out))
  go_ret
  exact ⟨rfl, hb2.trans (hb3.mono hb2.size)⟩
include h in
set_option maxHeartbeats 400000 in
theorem rver_old (k : Nat) (hk : pl T c = k) (hkn : k < T.length) (hs : T[k].s = s) (hr : r < T[k].r) : Calls Try.prog 25 #[.pointer (some ⟨p, 0, none⟩), .int .i64 c, .int .i64 s, .int .i64 r] w (VE w (.int .i64 3)) := by
  have HL := hid (rlook_yes p v T c w h k hk hkn)
  have HZ := hid ssSize
  unfold LK at HL
  have HC5 : Hid ((Ss.cells T[k]).length = 5) := hid (Ss.len _)
  have HC1 : Hid ((Ss.cells T[k]).all (·.oneCell') = true) := hid (Ss.one _)
  have HX1 : Hid ((Ss.cells T[k])[1]? = some (.int .i64 T[k].s)) := hid rfl
  have HX2 : Hid ((Ss.cells T[k])[2]? = some (.int .i64 T[k].r)) := hid rfl
  obtain ⟨hx1, hx2⟩ := (h.wf.ok T[k] (List.getElem_mem hkn)).r
  generalize T[k].s = xs at *
  generalize T[k].r = xr at *
  generalize Ss.cells T[k] = X at *
  clear h hk hkn
  have e2 : (xs != s) = false := by rw [hs]; simp
  have e4 : (r == xr) = false := beq_eq_false_iff_ne.2 (by omega)
  clear hs
  go_enter Try.func25, Try.ntmps25
  go_wp2_with (first
    | (go_at_call 13; refine HL.out.mono ?_; rintro e w2 ⟨rfl, hb2⟩)
    | (refine wpl_store_st rfl (.tmp 9) (.tmp 15) rfl HZ.out w2.heap.size ss0.cells X rfl rfl (Row.new _ _ _) ?_ (hid rfl) (hid HC5.out) (hid HC1.out); intro w3 hr3 hg3; have hb3 : Below w2.heap.size w2 w3 := ((Below.refl _ _).alloc (Nat.le_refl _) _).trans (below_grown hg3 (Nat.le_refl _) (by simp)); have hc1 := hr3.at_ 1 _ HX1.out; have hc2 := hr3.at_ 2 _ HX2.out))
  go_ret
  exact ⟨rfl, hb2.trans (hb3.mono hb2.size)⟩
include h in
set_option maxHeartbeats 400000 in
theorem rver_fresh (k : Nat) (hk : pl T c = k) (hkn : k < T.length) (hs : T[k].s = s) (hr : r = T[k].r + 1) : Calls Try.prog 25 #[.pointer (some ⟨p, 0, none⟩), .int .i64 c, .int .i64 s, .int .i64 r] w (VE w (.int .i64 1)) := by
  have HL := hid (rlook_yes p v T c w h k hk hkn)
  have HZ := hid ssSize
  unfold LK at HL
  have HC5 : Hid ((Ss.cells T[k]).length = 5) := hid (Ss.len _)
  have HC1 : Hid ((Ss.cells T[k]).all (·.oneCell') = true) := hid (Ss.one _)
  have HX1 : Hid ((Ss.cells T[k])[1]? = some (.int .i64 T[k].s)) := hid rfl
  have HX2 : Hid ((Ss.cells T[k])[2]? = some (.int .i64 T[k].r)) := hid rfl
  obtain ⟨hx1, hx2⟩ := (h.wf.ok T[k] (List.getElem_mem hkn)).r
  generalize T[k].s = xs at *
  generalize T[k].r = xr at *
  generalize Ss.cells T[k] = X at *
  clear h hk hkn
  have e2 : (xs != s) = false := by rw [hs]; simp
  have e3 : (r == xr) = false := beq_eq_false_iff_ne.2 (by omega)
  have e4 : ¬ r < xr := by omega
  have e5 : (r == xr + 1) = true := beq_iff_eq.2 hr
  clear hs hr
  go_enter Try.func25, Try.ntmps25
  go_wp2_with (first
    | (go_at_call 13; refine HL.out.mono ?_; rintro e w2 ⟨rfl, hb2⟩)
    | (refine wpl_store_st rfl (.tmp 9) (.tmp 15) rfl HZ.out w2.heap.size ss0.cells X rfl rfl (Row.new _ _ _) ?_ (hid rfl) (hid HC5.out) (hid HC1.out); intro w3 hr3 hg3; have hb3 : Below w2.heap.size w2 w3 := ((Below.refl _ _).alloc (Nat.le_refl _) _).trans (below_grown hg3 (Nat.le_refl _) (by simp)); have hc1 := hr3.at_ 1 _ HX1.out; have hc2 := hr3.at_ 2 _ HX2.out))
  go_ret
  exact ⟨rfl, hb2.trans (hb3.mono hb2.size)⟩
include h in
set_option maxHeartbeats 400000 in
theorem rver_ahead (k : Nat) (hk : pl T c = k) (hkn : k < T.length) (hs : T[k].s = s) (hr : T[k].r + 1 < r) : Calls Try.prog 25 #[.pointer (some ⟨p, 0, none⟩), .int .i64 c, .int .i64 s, .int .i64 r] w (VE w (.int .i64 4)) := by
  have HL := hid (rlook_yes p v T c w h k hk hkn)
  have HZ := hid ssSize
  unfold LK at HL
  have HC5 : Hid ((Ss.cells T[k]).length = 5) := hid (Ss.len _)
  have HC1 : Hid ((Ss.cells T[k]).all (·.oneCell') = true) := hid (Ss.one _)
  have HX1 : Hid ((Ss.cells T[k])[1]? = some (.int .i64 T[k].s)) := hid rfl
  have HX2 : Hid ((Ss.cells T[k])[2]? = some (.int .i64 T[k].r)) := hid rfl
  obtain ⟨hx1, hx2⟩ := (h.wf.ok T[k] (List.getElem_mem hkn)).r
  generalize T[k].s = xs at *
  generalize T[k].r = xr at *
  generalize Ss.cells T[k] = X at *
  clear h hk hkn
  have e2 : (xs != s) = false := by rw [hs]; simp
  have e3 : (r == xr + 1) = false := beq_eq_false_iff_ne.2 (by omega)
  have e4 : (r == xr) = false := beq_eq_false_iff_ne.2 (by omega)
  have e5 : ¬ r < xr := by omega
  clear hs
  go_enter Try.func25, Try.ntmps25
  go_wp2_with (first
    | (go_at_call 13; refine HL.out.mono ?_; rintro e w2 ⟨rfl, hb2⟩)
    | (refine wpl_store_st rfl (.tmp 9) (.tmp 15) rfl HZ.out w2.heap.size ss0.cells X rfl rfl (Row.new _ _ _) ?_ (hid rfl) (hid HC5.out) (hid HC1.out); intro w3 hr3 hg3; have hb3 : Below w2.heap.size w2 w3 := ((Below.refl _ _).alloc (Nat.le_refl _) _).trans (below_grown hg3 (Nat.le_refl _) (by simp)); have hc1 := hr3.at_ 1 _ HX1.out; have hc2 := hr3.at_ 2 _ HX2.out))
  go_ret
  exact ⟨rfl, hb2.trans (hb3.mono hb2.size)⟩
include h in
theorem rver_has : Calls Try.prog 25 #[.pointer (some ⟨p, 0, none⟩), .int .i64 c, .int .i64 s, .int .i64 r] w (VE w (.int .i64 (ver T c s r))) := by
  unfold ver
  by_cases hk : pl T c < T.length
  · rw [if_neg (fun hh => hh hk), at_get hk]
    by_cases hs : T[pl T c].s = s
    · rw [if_neg (fun hh => hh hs)]
      by_cases h1 : r = T[pl T c].r + 1
      · rw [if_pos h1]; exact rver_fresh p v T c s r w h _ rfl hk hs h1
      rw [if_neg h1]
      by_cases h2 : r = T[pl T c].r
      · rw [if_pos h2]; exact rver_again p v T c s r w h _ rfl hk hs h2
      rw [if_neg h2]
      by_cases h3 : r < T[pl T c].r
      · rw [if_pos h3]; exact rver_old p v T c s r w h _ rfl hk hs h3
      · rw [if_neg h3]; exact rver_ahead p v T c s r w h _ rfl hk hs (by omega)
    · rw [if_pos hs]; exact rver_other p v T c s r w h _ rfl hk hs
  · rw [if_pos hk]; exact rver_no p v T c s r w h hk
include h in
set_option maxHeartbeats 400000 in
theorem rnot_8 (hno : ¬ pl T c < T.length) : Calls Try.prog 24 #[.pointer (some ⟨p, 0, none⟩), .int .i64 c, .int .i64 r, .int .i64 o, .string t] w (VE w (.int .i64 8)) := by
  have HP := hid (place_any p v T c w h)
  rw [show idx T c = -1 from by unfold idx; rw [if_neg hno]] at HP
  clear h hno
  go_enter Try.func24, Try.ntmps24
  go_wp2_with (first
    | (go_at_call 28; refine HP.out.mono ?_; rintro e w2 ⟨rfl, rfl⟩)
    | fail)
  go_ret
  exact ⟨rfl, Below.refl _ _⟩
include h in
set_option maxHeartbeats 400000 in
theorem rnot_1a (hk : pl T c < T.length) (h1 : ¬ Fit r) : Calls Try.prog 24 #[.pointer (some ⟨p, 0, none⟩), .int .i64 c, .int .i64 r, .int .i64 o, .string t] w (VE w (.int .i64 1)) := by
  have HP := hid (place_any p v T c w h)
  rw [show idx T c = (pl T c : Int) from by unfold idx; rw [if_pos hk]] at HP
  have HN1 := hid (fun W => fits_no r 0 W h1)
  generalize pl T c = k at *
  clear h hk h1
  go_enter Try.func24, Try.ntmps24
  go_wp2_with (first
    | (go_at_call 28; refine HP.out.mono ?_; rintro e w2 ⟨rfl, rfl⟩)
    | (go_at_call 39; refine (HN1.out _).mono ?_; rintro e w3 ⟨rfl, rfl⟩; clear HN1))
  go_ret
  exact ⟨rfl, Below.refl _ _⟩
include h in
set_option maxHeartbeats 400000 in
theorem rnot_1b (hk : pl T c < T.length) (h1 : Fit r) (h2 : ¬ Fit o) : Calls Try.prog 24 #[.pointer (some ⟨p, 0, none⟩), .int .i64 c, .int .i64 r, .int .i64 o, .string t] w (VE w (.int .i64 1)) := by
  have HP := hid (place_any p v T c w h)
  rw [show idx T c = (pl T c : Int) from by unfold idx; rw [if_pos hk]] at HP
  have HN1 := hid (fun W => fits_yes r 0 W h1.1 h1.2)
  have HN2 := hid (fun W => fits_no o 0 W h2)
  generalize pl T c = k at *
  clear h hk h1 h2
  go_enter Try.func24, Try.ntmps24
  go_wp2_with (first
    | (go_at_call 28; refine HP.out.mono ?_; rintro e w2 ⟨rfl, rfl⟩)
    | (go_at_call 39; refine (HN1.out _).mono ?_; rintro e w3 ⟨rfl, rfl⟩; clear HN1)
    | (go_at_call 39; refine (HN2.out _).mono ?_; rintro e w3 ⟨rfl, rfl⟩))
  go_ret
  exact ⟨rfl, Below.refl _ _⟩
include h in
set_option maxHeartbeats 400000 in
theorem rnot_5 (hk : pl T c < T.length) (h1 : Fit r) (h2 : Fit o) (ht : 200 < (t.size : Int)) : Calls Try.prog 24 #[.pointer (some ⟨p, 0, none⟩), .int .i64 c, .int .i64 r, .int .i64 o, .string t] w (VE w (.int .i64 5)) := by
  have HP := hid (place_any p v T c w h)
  rw [show idx T c = (pl T c : Int) from by unfold idx; rw [if_pos hk]] at HP
  have HN1 := hid (fun W => fits_yes r 0 W h1.1 h1.2)
  have HN2 := hid (fun W => fits_yes o 0 W h2.1 h2.2)
  generalize pl T c = k at *
  clear h hk h1 h2
  go_enter Try.func24, Try.ntmps24
  go_wp2_with (first
    | (go_at_call 28; refine HP.out.mono ?_; rintro e w2 ⟨rfl, rfl⟩)
    | (go_at_call 39; refine (HN1.out _).mono ?_; rintro e w3 ⟨rfl, rfl⟩; clear HN1)
    | (go_at_call 39; refine (HN2.out _).mono ?_; rintro e w3 ⟨rfl, rfl⟩))
  go_ret
  exact ⟨rfl, Below.refl _ _⟩
/-- three cells are written, one behind the other -/
theorem rnot_turn {w : World} {g k : Nat} (h : HasT w 29 p v T) (hg : v.ownBlock = some g) (hk : k < T.length) (h1 : Fit r) (h2 : Fit o) (ht : t.size ≤ 200) :
    ∃ (T1 T2 : List Ss), HasT (w.setCell ⟨g, k * 5 + 2, none⟩ (.int .i64 r)) 29 p v T1 ∧ HasT ((w.setCell ⟨g, k * 5 + 2, none⟩ (.int .i64 r)).setCell ⟨g, k * 5 + 3, none⟩ (.int .i64 o)) 29 p v T2 ∧ T1.length = T.length ∧ T2.length = T.length ∧
    HasT (((w.setCell ⟨g, k * 5 + 2, none⟩ (.int .i64 r)).setCell ⟨g, k * 5 + 3, none⟩ (.int .i64 o)).setCell ⟨g, k * 5 + 4, none⟩ (.string t)) 29 p v (T.set k (noted T[k] r o t)) ∧
    Fr w (((w.setCell ⟨g, k * 5 + 2, none⟩ (.int .i64 r)).setCell ⟨g, k * 5 + 3, none⟩ (.int .i64 o)).setCell ⟨g, k * 5 + 4, none⟩ (.string t)) (fpT p v) := by
  have hx := h.wf.ok T[k] (List.getElem_mem hk)
  have a1 := h.turn hg k 2 (.int .i64 r) ⟨T[k].c, T[k].s, r, T[k].o, T[k].t⟩ hk (by decide) rfl ⟨hx.c, hx.s, h1, hx.o, hx.t⟩
  have a2 := a1.turn hg k 3 (.int .i64 o) ⟨T[k].c, T[k].s, r, o, T[k].t⟩ (by rw [List.length_set]; exact hk) (by decide) (by rw [List.getElem_set_self]; rfl) ⟨hx.c, hx.s, h1, h2, hx.t⟩
  have a3 := a2.turn hg k 4 (.string t) (noted T[k] r o t) (by rw [List.length_set, List.length_set]; exact hk) (by decide) (by rw [List.getElem_set_self]; rfl) (noted_ok hx h1 h2 ht)
  rw [List.set_set] at a2
  rw [List.set_set, List.set_set] at a3
  refine ⟨_, _, a1, a2, by rw [List.length_set], by rw [List.length_set], a3, ?_⟩
  exact ((Fr.turn w _ _ hg).trans (Fr.turn _ _ _ hg) (fun _ h _ => h)).trans (Fr.turn _ _ _ hg) (fun _ h _ => h)
include h in
set_option maxHeartbeats 1000000 in
theorem rnot_0 (k : Nat) (hk : pl T c = k) (hkn : k < T.length) (h1 : Fit r) (h2 : Fit o) (ht : (t.size : Int) ≤ 200) : Calls Try.prog 24 #[.pointer (some ⟨p, 0, none⟩), .int .i64 c, .int .i64 r, .int .i64 o, .string t] w fun e w' => e = .returned (.int .i64 0) ∧ Gw 29 p w (fpT p v) (T.set k (noted T[k] r o t)) w' := by
  obtain ⟨g, cap, ev, hcap, hg⟩ := own_some h.own (by omega : 0 < T.length)
  have HP := hid (place_any p v T c w h)
  rw [show idx T c = (k : Int) from by unfold idx; rw [hk, if_pos hkn]] at HP
  have HN1 := hid (fun W => fits_yes r 0 W h1.1 h1.2)
  have HN2 := hid (fun W => fits_yes o 0 W h2.1 h2.2)
  obtain ⟨T1, T2, a1, a2, l1, l2, a3, fr⟩ := rnot_turn p v T r o t h hg hkn h1 h2 (by omega)
  have d0 := h.c0
  have d1 := a1.c0
  have d2 := a2.c0
  rw [ev] at d0 d1 d2
  have m0 := h.frozen hg (k * 5 + 2)
  have m1 := a1.frozen hg (k * 5 + 3)
  have m2 := a2.frozen hg (k * 5 + 4)
  have n0 : w.cell? ⟨g, k * 5 + 2, none⟩ = some (.int .i64 T[k].r) := h.cell hg k 2 hkn (by decide)
  have n1 := a1.cell hg k 3 (by rw [l1]; exact hkn) (by decide)
  have n2 := a2.cell hg k 4 (by rw [l2]; exact hkn) (by decide)
  have hA1 : k < T1.length := by rw [l1]; exact hkn
  have hA2 : k < T2.length := by rw [l2]; exact hkn
  have n1' : (w.setCell ⟨g, k * 5 + 2, none⟩ (.int .i64 r)).cell? ⟨g, k * 5 + 3, none⟩ = some (.int .i64 T1[k].o) := n1
  have n2' : ((w.setCell ⟨g, k * 5 + 2, none⟩ (.int .i64 r)).setCell ⟨g, k * 5 + 3, none⟩ (.int .i64 o)).cell? ⟨g, k * 5 + 4, none⟩ = some (.string T2[k].t) := n2
  have HA3 := hid a3
  have HFR := hid fr
  have hk0 : (0 : Int) ≤ (k : Int) := by omega
  have hk1 : (k : Int) < (T.length : Int) := by omega
  have hn3 := h.wf.le
  generalize T.set k (noted T[k] r o t) = U at *
  generalize T[k].r = xr at *
  generalize T1[k].o = xo at *
  generalize T2[k].t = xt at *
  generalize T.length = n at *
  clear h hk hkn hg h1 h2 a1 a2 a3 fr l1 l2 n1 n2 ev hA1 hA2
  go_enter Try.func24, Try.ntmps24
  go_wp2_with (first
    | (go_at_call 28; refine HP.out.mono ?_; rintro e w2 ⟨rfl, rfl⟩)
    | (go_at_call 39; refine (HN1.out _).mono ?_; rintro e w3 ⟨rfl, rfl⟩; clear HN1)
    | (go_at_call 39; refine (HN2.out _).mono ?_; rintro e w3 ⟨rfl, rfl⟩))
  go_ret
  exact ⟨rfl, fpT p v, ⟨_, rfl, HA3.out⟩, HFR.out, fun _ h => .inl h⟩
end
theorem rnot_any (p : Nat) (fp : List Nat) (T : List Ss) (c r o : Int) (t : ByteArray) (w : World) (h : Gk 29 p T fp w) : Calls Try.prog 24 #[.pointer (some ⟨p, 0, none⟩), .int .i64 c, .int .i64 r, .int .i64 o, .string t] w fun e w' => e = .returned (.int .i64 (notE T c r o t)) ∧ Gw 29 p w fp (note T c r o t) w' := by
  have hG := h
  obtain ⟨v, rfl, h⟩ := h
  have same : ∀ {z : Int}, Calls Try.prog 24 #[.pointer (some ⟨p, 0, none⟩), .int .i64 c, .int .i64 r, .int .i64 o, .string t] w (VE w (.int .i64 z)) → z ≠ 0 → notE T c r o t = z → Calls Try.prog 24 #[.pointer (some ⟨p, 0, none⟩), .int .i64 c, .int .i64 r, .int .i64 o, .string t] w fun e w' => e = .returned (.int .i64 (notE T c r o t)) ∧ Gw 29 p w (fpT p v) (note T c r o t) w' := by
    intro z hc hz hn
    refine hc.mono fun e w' hh => ⟨by rw [hn]; exact hh.1, ?_⟩
    have : note T c r o t = T := by unfold note; rw [hn, if_neg hz]
    rw [this]
    exact (Gw.start hG).below hh.2
  by_cases h1 : pl T c < T.length
  · by_cases h2 : ¬ Fit r ∨ ¬ Fit o
    · refine same (z := 1) ?_ (by decide) (by unfold notE; rw [if_neg (fun q => q h1), if_pos h2])
      by_cases h3 : Fit r
      · exact rnot_1b p v T c r o t w h h1 h3 (h2.resolve_left (fun q => q h3))
      · exact rnot_1a p v T c r o t w h h1 h3
    · by_cases h3 : 200 < t.size
      · exact same (rnot_5 p v T c r o t w h h1 (by omega) (by omega) (by omega)) (by decide) (by unfold notE; rw [if_neg (fun q => q h1), if_neg h2, if_pos h3])
      · have e0 : notE T c r o t = 0 := by unfold notE; rw [if_neg (fun q => q h1), if_neg h2, if_neg h3]
        unfold note
        rw [e0, if_pos rfl, at_get h1]
        exact rnot_0 p v T c r o t w h _ rfl h1 (by omega) (by omega) (by omega)
  · exact same (rnot_8 p v T c r o t w h h1) (by decide) (by unfold notE; rw [if_pos h1])
theorem rver_any (p : Nat) (fp : List Nat) (T : List Ss) (c s r : Int) (w : World) (h : Gk 29 p T fp w) : Calls Try.prog 25 #[.pointer (some ⟨p, 0, none⟩), .int .i64 c, .int .i64 s, .int .i64 r] w (VE w (.int .i64 (ver T c s r))) := by
  obtain ⟨v, -, h⟩ := h
  exact rver_has p v T c s r w h
theorem rlook_any (p : Nat) (fp : List Nat) (T : List Ss) (c : Int) (w : World) (h : Gk 29 p T fp w) : Calls Try.prog 13 #[.pointer (some ⟨p, 0, none⟩), .int .i64 c] w (LK w (look T c) (looks T c)) := by
  obtain ⟨v, -, h⟩ := h
  exact rlook_has p v T c w h
end Go.Proofs.Ytgphijkonmdehaa
