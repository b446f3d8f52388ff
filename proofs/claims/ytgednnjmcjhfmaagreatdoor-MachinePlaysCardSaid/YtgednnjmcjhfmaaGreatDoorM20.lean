/-
  The walks of the document's Fits, Place, Look, Verdict and Note.
-/
import Derived.Test.YtgednnjmcjhfmaaGreatDoorM19
import Derived.Test.YtgednnjmcjhfmaaGreatDoorM18
namespace Go.Proofs.YtgednnjmcjhfmaaGreatDoor
open Go.RowKit
set_option maxRecDepth 10000
set_option maxHeartbeats 80000000
theorem fits_yes (n l : Int) (w : World) (h1 : l ≤ n) (h2 : n ≤ 72057594037927935) : Calls Tryz.prog 97 #[.int .i64 n, .int .i64 l] w fun e w' => e = .returned (.bool true) ∧ w' = w := by
 go_enter Tryz.func97, Tryz.ntmps97
 go_wp2_with fail
 go_ret
 exact ⟨rfl, rfl⟩
theorem fits_no (n l : Int) (w : World) (h : ¬ (l ≤ n ∧ n ≤ 72057594037927935)) : Calls Tryz.prog 97 #[.int .i64 n, .int .i64 l] w fun e w' => e = .returned (.bool false) ∧ w' = w := by
 by_cases h1 : n < l
 ·
  clear h
  go_enter Tryz.func97, Tryz.ntmps97
  go_wp2_with fail
  go_ret
  exact ⟨rfl, rfl⟩
 ·
  have h3 : l ≤ n := by omega
  have h4 : decide (n ≤ 72057594037927935) = false := decide_eq_false (by omega)
  clear h h1
  go_enter Tryz.func97, Tryz.ntmps97
  go_wp2_with fail
  go_ret
  first | exact ⟨rfl, rfl⟩ | (refine ⟨?_, rfl⟩; show Ending.returned (.bool (decide (n ≤ 72057594037927935))) = _; rw [h4])
section
variable (p : Nat) (v : Value) (T : List Ss) (c s r o : Int) (t : ByteArray) (w : World) (h : HasT w 51 p v T)
include h in
theorem place_any : Calls Tryz.prog 62 #[.pointer (some ⟨p, 0, none⟩), .int .i64 c] w fun e w' => e = .returned (.int .i64 (idx T c)) ∧ w' = w := by
 obtain ⟨A, cc, ev, hnc, -⟩ := h.shape
 have hc0 := h.c0
 rw [ev] at hc0
 by_cases h0 : T.length = 0
 ·
  have hi : idx T c = -1 := by
   unfold idx
   rw [if_neg (by omega)]
  rw [hi]
  rw [h0] at hc0
  clear h h0 hi ev hnc
  go_enter Tryz.func62, Tryz.ntmps62
  go_wp2_with fail
  go_loopw [5] (fun i wr => i = .int .i64 0 ∧ wr = w) (fun _ _ => 0)
  case atStart => exact ⟨rfl, rfl⟩
  case round =>
   obtain ⟨rfl, rfl⟩ := hrel
   go_wp2_with fail
   go_ret
   exact ⟨rfl, rfl⟩
 obtain ⟨g, cap, e3, -, hg⟩ := own_some h.own (by omega)
 rw [ev] at e3
 simp only [Value.slice.injEq, true_and] at e3
 obtain ⟨rfl, rfl⟩ := e3
 have HCE := hid (fun k (hk : k < T.length) => show w.cell? ⟨g, k * 5, none⟩ = some (.int .i64 T[k].c) from h.cell hg k 0 hk (by decide))
 have HNF : Hid (pl T c = T.length → idx T c = -1) := hid fun e => by
  unfold idx
  rw [if_neg (by omega)]
 have HF : Hid (∀ k, k < T.length → pl T c = k → idx T c = (k : Int)) := hid fun k hk e => by
  unfold idx
  rw [e, if_pos hk]
 have hw := h.wf.le
 generalize idx T c = res at *
 obtain ⟨n, hn⟩ : ∃ n, T.length = n := ⟨_, rfl⟩
 have HN := hid hn
 rw [hn] at hc0 hw
 clear h ev hg hn h0 hnc
 go_enter Tryz.func62, Tryz.ntmps62
 go_wp2_with fail
 go_loopw [5] (fun i wr => ∃ k : Nat, k ≤ n ∧ i = .int .i64 (k : Int) ∧ Hid (k ≤ pl T c) ∧ wr = w) (fun i _ => n - (intOf i).toNat)
 case atStart => exact ⟨0, by omega, rfl, hid (Nat.zero_le _), rfl⟩
 case round =>
  obtain ⟨k, hk, rfl, HK, rfl⟩ := hrel
  have hk0 : (0 : Int) ≤ (k : Int) := by omega
  by_cases hlt : k < n
  ·
   have hkl : k < T.length := by rw [HN.out]; exact hlt
   have hck := HCE.out k hkl
   have hk1 : (k : Int) < (n : Int) := by omega
   by_cases he : T[k].c = c
   ·
    have HAT := hid (HF.out k hkl (pl_this HK.out hkl he))
    have q1 : (T[k].c == c) = true := beq_iff_eq.2 he
    generalize T[k].c = xc at *
    clear he
    go_wp2_with fail
    go_ret
    rw [HAT.out]
    exact ⟨rfl, rfl⟩
   ·
    have HAT : Hid (k + 1 ≤ pl T c) := hid (by
     rcases Nat.lt_or_ge k (pl T c) with h | h
     ·
      omega
     ·
      have e : pl T c = k := Nat.le_antisymm h HK.out
      have h2 := pl_here (T := T) (c := c) (by rw [e]; exact hkl)
      simp only [e] at h2
      exact absurd h2 he)
    have q1 : (T[k].c == c) = false := beq_eq_false_iff_ne.2 he
    generalize T[k].c = xc at *
    clear he
    go_wp2_with fail
    exact ⟨⟨k + 1, by omega, by go_num, hid HAT.out, by first | rfl | trivial⟩, by simp [intOf]; omega⟩
  ·
   obtain rfl : k = n := by omega
   have HAT := hid (HNF.out (by have := HK.out; have := pl_le T c; have := HN.out; omega))
   have hk1 : ¬ (k : Int) < (k : Int) := by omega
   go_wp2_with fail
   go_ret
   rw [HAT.out]
   exact ⟨rfl, rfl⟩
include h in
theorem rlook_no (hno : ¬ pl T c < T.length) : Calls Tryz.prog 35 #[.pointer (some ⟨p, 0, none⟩), .int .i64 c] w (LK w ss0 false) := by
 have HZ := hid ssSize
 have hi : idx T c = -1 := by unfold idx; rw [if_neg hno]
 have HP := hid (fun W (hW : Below w.heap.size w W) => place_any p v T c W (h.below hW))
 rw [hi] at HP
 have HR0 := hid (show Row (w.alloc (.cells #[.int .i64 0, .int .i64 0, .int .i64 0, .int .i64 0, .string ⟨#[]⟩] 75)) w.heap.size 75 ss0.cells from Row.new _ _ _)
 clear h hno hi
 go_enter Tryz.func35, Tryz.ntmps35
 go_wp2_with (first
  | (go_at_call 62; refine (HP.out _ ((Below.refl _ _).alloc (Nat.le_refl _) _)).mono ?_; rintro e w2 ⟨rfl, rfl⟩)
  | (refine wpl_store_st rfl (.tmp 4) (.tmp 12) rfl HZ.out w.heap.size ss0.cells ss0.cells rfl rfl HR0.out ?_ (hid rfl) (hid rfl) (hid rfl); intro w3 hr3 hg3))
 refine bodyPost_ret (results_cell1 rfl _ _ w.heap.size 75 ss0.cells.toArray (0, 0) _ (.bool false) rfl rfl hr3.arr' Tryz.underlying75 rfl HZ.out) rfl ⟨rfl, ?_⟩
 exact ((Below.refl _ _).alloc (Nat.le_refl _) _).trans (below_grown hg3 (Nat.le_refl _) (by simp))
include h in
theorem rlook_yes (k : Nat) (hk : pl T c = k) (hkn : k < T.length) : Calls Tryz.prog 35 #[.pointer (some ⟨p, 0, none⟩), .int .i64 c] w (LK w T[k] true) := by
 have HZ := hid ssSize
 obtain ⟨g, cap, ev, hcap, hg⟩ := own_some h.own (by omega : 0 < T.length)
 have hi : idx T c = (k : Int) := by unfold idx; rw [hk, if_pos hkn]
 have HP := hid (fun W (hW : Below w.heap.size w W) => place_any p v T c W (h.below hW))
 rw [hi] at HP
 have hc0 := fun W (hW : Below w.heap.size w W) => (h.below hW).c0
 rw [ev] at hc0
 have HC0 := hid hc0
 have HRG := hid (fun W (hW : Below w.heap.size w W) => (h.below hW).range hg k hkn)
 have HR0 := hid (show Row (w.alloc (.cells #[.int .i64 0, .int .i64 0, .int .i64 0, .int .i64 0, .string ⟨#[]⟩] 75)) w.heap.size 75 ss0.cells from Row.new _ _ _)
 unfold LK
 have HC5 : Hid ((Ss.cells T[k]).length = 5) := hid (Ss.len _)
 have HC1 : Hid ((Ss.cells T[k]).all (·.oneCell') = true) := hid (Ss.one _)
 generalize Ss.cells T[k] = X at *
 have hk0 : (0 : Int) ≤ (k : Int) := by omega
 have hk1 : (k : Int) < (T.length : Int) := by omega
 generalize T.length = n at *
 clear h hk hg hi hc0 ev
 have hcw := HC0.out _ ((Below.refl _ _).alloc (Nat.le_refl _) (.cells #[.int .i64 0, .int .i64 0, .int .i64 0, .int .i64 0, .string ⟨#[]⟩] 75))
 have HRG2 := hid (HRG.out _ ((Below.refl _ _).alloc (Nat.le_refl _) (.cells #[.int .i64 0, .int .i64 0, .int .i64 0, .int .i64 0, .string ⟨#[]⟩] 75)))
 go_enter Tryz.func35, Tryz.ntmps35
 go_wp2_with (first
  | (go_at_call 62; refine (HP.out _ ((Below.refl _ _).alloc (Nat.le_refl _) _)).mono ?_; rintro e w2 ⟨rfl, rfl⟩)
  | (refine wpList_load_mid rfl 75 (.tmp 18) rfl g (k * 5) rfl X _ HRG2.out Tryz.underlying75 rfl (by rw [HC5.out]; exact HZ.out) ?_)
  | (refine wpl_store_st rfl (.tmp 4) (.tmp 19) rfl HZ.out w.heap.size ss0.cells X rfl rfl HR0.out ?_ (hid rfl) (hid HC5.out) (hid HC1.out); intro w4 hr4 hg4))
 refine bodyPost_ret (results_cell1 rfl _ _ w.heap.size 75 X.toArray (0, 0) _ (.bool true) rfl rfl hr4.arr' Tryz.underlying75 rfl (by rw [List.size_toArray, HC5.out]; exact HZ.out)) rfl ⟨rfl, ?_⟩
 exact ((Below.refl _ _).alloc (Nat.le_refl _) _).trans (below_grown hg4 (Nat.le_refl _) (by simp))
include h in
theorem rlook_has : Calls Tryz.prog 35 #[.pointer (some ⟨p, 0, none⟩), .int .i64 c] w (LK w (look T c) (looks T c)) := by
 unfold look looks
 by_cases hk : pl T c < T.length
 ·
  rw [if_pos hk, decide_eq_true hk, at_get hk]
  exact rlook_yes p v T c w h _ rfl hk
 ·
  rw [if_neg hk, decide_eq_false hk]
  exact rlook_no p v T c w h hk
include h in
theorem rver_no (hno : ¬ pl T c < T.length) : Calls Tryz.prog 13 #[.pointer (some ⟨p, 0, none⟩), .int .i64 c, .int .i64 s, .int .i64 r] w (VE w (.int .i64 5)) := by
 have HL := hid (rlook_no p v T c w h hno)
 have HZ := hid ssSize
 clear h hno
 go_enter Tryz.func13, Tryz.ntmps13
 go_wp2_with (first
  | (go_at_call 35; refine HL.out.mono ?_; rintro e w2 ⟨rfl, hb2⟩)
  | (refine wpl_store_st rfl (.tmp 9) (.tmp 15) rfl HZ.out w2.heap.size ss0.cells ss0.cells rfl rfl (Row.new _ _ _) ?_ (hid rfl) (hid rfl) (hid rfl); intro w3 hr3 hg3; have hb3 : Below w2.heap.size w2 w3 := ((Below.refl _ _).alloc (Nat.le_refl _) _).trans (below_grown hg3 (Nat.le_refl _) (by simp))))
 go_ret
 exact ⟨rfl, hb2.trans (hb3.mono hb2.size)⟩
include h in
theorem rver_other (k : Nat) (hk : pl T c = k) (hkn : k < T.length) (hs : T[k].s ≠ s) : Calls Tryz.prog 13 #[.pointer (some ⟨p, 0, none⟩), .int .i64 c, .int .i64 s, .int .i64 r] w (VE w (.int .i64 5)) := by
 have HL := hid (rlook_yes p v T c w h k hk hkn)
 have HZ := hid ssSize
 unfold LK at HL
 have HC5 : Hid ((Ss.cells T[k]).length = 5) := hid (Ss.len _)
 have HC1 : Hid ((Ss.cells T[k]).all (·.oneCell') = true) := hid (Ss.one _)
 have HX1 : Hid ((Ss.cells T[k])[1]? = some (.int .i64 T[k].s)) := hid rfl
 have HX2 : Hid ((Ss.cells T[k])[2]? = some (.int .i64 T[k].r)) := hid rfl
 obtain ⟨hx1, hx2⟩ := (h.wf.ok T[k] (List.getElem_mem hkn)).r
 generalize T[k].s = xs at *
 generalize T[k].r = xr at *
 generalize Ss.cells T[k] = X at *
 clear h hk hkn
 have e2 : (xs != s) = true := bne_iff_ne.2 hs
 clear hs
 go_enter Tryz.func13, Tryz.ntmps13
 go_wp2_with (first
  | (go_at_call 35; refine HL.out.mono ?_; rintro e w2 ⟨rfl, hb2⟩)
  | (refine wpl_store_st rfl (.tmp 9) (.tmp 15) rfl HZ.out w2.heap.size ss0.cells X rfl rfl (Row.new _ _ _) ?_ (hid rfl) (hid HC5.out) (hid HC1.out); intro w3 hr3 hg3; have hb3 : Below w2.heap.size w2 w3 := ((Below.refl _ _).alloc (Nat.le_refl _) _).trans (below_grown hg3 (Nat.le_refl _) (by simp)); have hc1 := hr3.at_ 1 _ HX1.out; have hc2 := hr3.at_ 2 _ HX2.out))
 go_ret
 exact ⟨rfl, hb2.trans (hb3.mono hb2.size)⟩
include h in
theorem rver_again (k : Nat) (hk : pl T c = k) (hkn : k < T.length) (hs : T[k].s = s) (hr : r = T[k].r) : Calls Tryz.prog 13 #[.pointer (some ⟨p, 0, none⟩), .int .i64 c, .int .i64 s, .int .i64 r] w (VE w (.int .i64 2)) := by
 have HL := hid (rlook_yes p v T c w h k hk hkn)
 have HZ := hid ssSize
 unfold LK at HL
 have HC5 : Hid ((Ss.cells T[k]).length = 5) := hid (Ss.len _)
 have HC1 : Hid ((Ss.cells T[k]).all (·.oneCell') = true) := hid (Ss.one _)
 have HX1 : Hid ((Ss.cells T[k])[1]? = some (.int .i64 T[k].s)) := hid rfl
 have HX2 : Hid ((Ss.cells T[k])[2]? = some (.int .i64 T[k].r)) := hid rfl
 obtain ⟨hx1, hx2⟩ := (h.wf.ok T[k] (List.getElem_mem hkn)).r
 generalize T[k].s = xs at *
 generalize T[k].r = xr at *
 generalize Ss.cells T[k] = X at *
 clear h hk hkn
 have e2 : (xs != s) = false := by rw [hs]; simp
 have e3 : (r == xr) = true := beq_iff_eq.2 hr
 clear hs hr
 go_enter Tryz.func13, Tryz.ntmps13
 go_wp2_with (first
  | (go_at_call 35; refine HL.out.mono ?_; rintro e w2 ⟨rfl, hb2⟩)
  | (refine wpl_store_st rfl (.tmp 9) (.tmp 15) rfl HZ.out w2.heap.size ss0.cells X rfl rfl (Row.new _ _ _) ?_ (hid rfl) (hid HC5.out) (hid HC1.out); intro w3 hr3 hg3; have hb3 : Below w2.heap.size w2 w3 := ((Below.refl _ _).alloc (Nat.le_refl _) _).trans (below_grown hg3 (Nat.le_refl _) (by simp)); have hc1 := hr3.at_ 1 _ HX1.out; have hc2 := hr3.at_ 2 _ HX2.out))
 go_ret
 exact ⟨rfl, hb2.trans (hb3.mono hb2.size)⟩
include h in
theorem rver_old (k : Nat) (hk : pl T c = k) (hkn : k < T.length) (hs : T[k].s = s) (hr : r < T[k].r) : Calls Tryz.prog 13 #[.pointer (some ⟨p, 0, none⟩), .int .i64 c, .int .i64 s, .int .i64 r] w (VE w (.int .i64 3)) := by
 have HL := hid (rlook_yes p v T c w h k hk hkn)
 have HZ := hid ssSize
 unfold LK at HL
 have HC5 : Hid ((Ss.cells T[k]).length = 5) := hid (Ss.len _)
 have HC1 : Hid ((Ss.cells T[k]).all (·.oneCell') = true) := hid (Ss.one _)
 have HX1 : Hid ((Ss.cells T[k])[1]? = some (.int .i64 T[k].s)) := hid rfl
 have HX2 : Hid ((Ss.cells T[k])[2]? = some (.int .i64 T[k].r)) := hid rfl
 obtain ⟨hx1, hx2⟩ := (h.wf.ok T[k] (List.getElem_mem hkn)).r
 generalize T[k].s = xs at *
 generalize T[k].r = xr at *
 generalize Ss.cells T[k] = X at *
 clear h hk hkn
 have e2 : (xs != s) = false := by rw [hs]; simp
 have e4 : (r == xr) = false := beq_eq_false_iff_ne.2 (by omega)
 clear hs
 go_enter Tryz.func13, Tryz.ntmps13
 go_wp2_with (first
  | (go_at_call 35; refine HL.out.mono ?_; rintro e w2 ⟨rfl, hb2⟩)
  | (refine wpl_store_st rfl (.tmp 9) (.tmp 15) rfl HZ.out w2.heap.size ss0.cells X rfl rfl (Row.new _ _ _) ?_ (hid rfl) (hid HC5.out) (hid HC1.out); intro w3 hr3 hg3; have hb3 : Below w2.heap.size w2 w3 := ((Below.refl _ _).alloc (Nat.le_refl _) _).trans (below_grown hg3 (Nat.le_refl _) (by simp)); have hc1 := hr3.at_ 1 _ HX1.out; have hc2 := hr3.at_ 2 _ HX2.out))
 go_ret
 exact ⟨rfl, hb2.trans (hb3.mono hb2.size)⟩
include h in
theorem rver_fresh (k : Nat) (hk : pl T c = k) (hkn : k < T.length) (hs : T[k].s = s) (hr : r = T[k].r + 1) : Calls Tryz.prog 13 #[.pointer (some ⟨p, 0, none⟩), .int .i64 c, .int .i64 s, .int .i64 r] w (VE w (.int .i64 1)) := by
 have HL := hid (rlook_yes p v T c w h k hk hkn)
 have HZ := hid ssSize
 unfold LK at HL
 have HC5 : Hid ((Ss.cells T[k]).length = 5) := hid (Ss.len _)
 have HC1 : Hid ((Ss.cells T[k]).all (·.oneCell') = true) := hid (Ss.one _)
 have HX1 : Hid ((Ss.cells T[k])[1]? = some (.int .i64 T[k].s)) := hid rfl
 have HX2 : Hid ((Ss.cells T[k])[2]? = some (.int .i64 T[k].r)) := hid rfl
 obtain ⟨hx1, hx2⟩ := (h.wf.ok T[k] (List.getElem_mem hkn)).r
 generalize T[k].s = xs at *
 generalize T[k].r = xr at *
 generalize Ss.cells T[k] = X at *
 clear h hk hkn
 have e2 : (xs != s) = false := by rw [hs]; simp
 have e3 : (r == xr) = false := beq_eq_false_iff_ne.2 (by omega)
 have e4 : ¬ r < xr := by omega
 have e5 : (r == xr + 1) = true := beq_iff_eq.2 hr
 clear hs hr
 go_enter Tryz.func13, Tryz.ntmps13
 go_wp2_with (first
  | (go_at_call 35; refine HL.out.mono ?_; rintro e w2 ⟨rfl, hb2⟩)
  | (refine wpl_store_st rfl (.tmp 9) (.tmp 15) rfl HZ.out w2.heap.size ss0.cells X rfl rfl (Row.new _ _ _) ?_ (hid rfl) (hid HC5.out) (hid HC1.out); intro w3 hr3 hg3; have hb3 : Below w2.heap.size w2 w3 := ((Below.refl _ _).alloc (Nat.le_refl _) _).trans (below_grown hg3 (Nat.le_refl _) (by simp)); have hc1 := hr3.at_ 1 _ HX1.out; have hc2 := hr3.at_ 2 _ HX2.out))
 go_ret
 exact ⟨rfl, hb2.trans (hb3.mono hb2.size)⟩
include h in
theorem rver_ahead (k : Nat) (hk : pl T c = k) (hkn : k < T.length) (hs : T[k].s = s) (hr : T[k].r + 1 < r) : Calls Tryz.prog 13 #[.pointer (some ⟨p, 0, none⟩), .int .i64 c, .int .i64 s, .int .i64 r] w (VE w (.int .i64 4)) := by
 have HL := hid (rlook_yes p v T c w h k hk hkn)
 have HZ := hid ssSize
 unfold LK at HL
 have HC5 : Hid ((Ss.cells T[k]).length = 5) := hid (Ss.len _)
 have HC1 : Hid ((Ss.cells T[k]).all (·.oneCell') = true) := hid (Ss.one _)
 have HX1 : Hid ((Ss.cells T[k])[1]? = some (.int .i64 T[k].s)) := hid rfl
 have HX2 : Hid ((Ss.cells T[k])[2]? = some (.int .i64 T[k].r)) := hid rfl
 obtain ⟨hx1, hx2⟩ := (h.wf.ok T[k] (List.getElem_mem hkn)).r
 generalize T[k].s = xs at *
 generalize T[k].r = xr at *
 generalize Ss.cells T[k] = X at *
 clear h hk hkn
 have e2 : (xs != s) = false := by rw [hs]; simp
 have e3 : (r == xr + 1) = false := beq_eq_false_iff_ne.2 (by omega)
 have e4 : (r == xr) = false := beq_eq_false_iff_ne.2 (by omega)
 have e5 : ¬ r < xr := by omega
 clear hs
 go_enter Tryz.func13, Tryz.ntmps13
 go_wp2_with (first
  | (go_at_call 35; refine HL.out.mono ?_; rintro e w2 ⟨rfl, hb2⟩)
  | (refine wpl_store_st rfl (.tmp 9) (.tmp 15) rfl HZ.out w2.heap.size ss0.cells X rfl rfl (Row.new _ _ _) ?_ (hid rfl) (hid HC5.out) (hid HC1.out); intro w3 hr3 hg3; have hb3 : Below w2.heap.size w2 w3 := ((Below.refl _ _).alloc (Nat.le_refl _) _).trans (below_grown hg3 (Nat.le_refl _) (by simp)); have hc1 := hr3.at_ 1 _ HX1.out; have hc2 := hr3.at_ 2 _ HX2.out))
 go_ret
 exact ⟨rfl, hb2.trans (hb3.mono hb2.size)⟩
include h in
theorem rver_has : Calls Tryz.prog 13 #[.pointer (some ⟨p, 0, none⟩), .int .i64 c, .int .i64 s, .int .i64 r] w (VE w (.int .i64 (ver T c s r))) := by
 unfold ver
 by_cases hk : pl T c < T.length
 ·
  rw [if_neg (fun hh => hh hk), at_get hk]
  by_cases hs : T[pl T c].s = s
  ·
   rw [if_neg (fun hh => hh hs)]
   by_cases h1 : r = T[pl T c].r + 1
   ·
    rw [if_pos h1]; exact rver_fresh p v T c s r w h _ rfl hk hs h1
   rw [if_neg h1]
   by_cases h2 : r = T[pl T c].r
   ·
    rw [if_pos h2]; exact rver_again p v T c s r w h _ rfl hk hs h2
   rw [if_neg h2]
   by_cases h3 : r < T[pl T c].r
   ·
    rw [if_pos h3]; exact rver_old p v T c s r w h _ rfl hk hs h3
   ·
    rw [if_neg h3]; exact rver_ahead p v T c s r w h _ rfl hk hs (by omega)
  ·
   rw [if_pos hs]; exact rver_other p v T c s r w h _ rfl hk hs
 ·
  rw [if_pos hk]; exact rver_no p v T c s r w h hk
include h in
theorem rnot_8 (hno : ¬ pl T c < T.length) : Calls Tryz.prog 60 #[.pointer (some ⟨p, 0, none⟩), .int .i64 c, .int .i64 r, .int .i64 o, .string t] w (VE w (.int .i64 8)) := by
 have HP := hid (place_any p v T c w h)
 rw [show idx T c = -1 from by unfold idx; rw [if_neg hno]] at HP
 clear h hno
 go_enter Tryz.func60, Tryz.ntmps60
 go_wp2_with (first
  | (go_at_call 62; refine HP.out.mono ?_; rintro e w2 ⟨rfl, rfl⟩)
  | fail)
 go_ret
 exact ⟨rfl, Below.refl _ _⟩
include h in
theorem rnot_1a (hk : pl T c < T.length) (h1 : ¬ Fit r) : Calls Tryz.prog 60 #[.pointer (some ⟨p, 0, none⟩), .int .i64 c, .int .i64 r, .int .i64 o, .string t] w (VE w (.int .i64 1)) := by
 have HP := hid (place_any p v T c w h)
 rw [show idx T c = (pl T c : Int) from by unfold idx; rw [if_pos hk]] at HP
 have HN1 := hid (fun W => fits_no r 0 W h1)
 generalize pl T c = k at *
 clear h hk h1
 go_enter Tryz.func60, Tryz.ntmps60
 go_wp2_with (first
  | (go_at_call 62; refine HP.out.mono ?_; rintro e w2 ⟨rfl, rfl⟩)
  | (go_at_call 97; refine (HN1.out _).mono ?_; rintro e w3 ⟨rfl, rfl⟩; clear HN1))
 go_ret
 exact ⟨rfl, Below.refl _ _⟩
include h in
theorem rnot_1b (hk : pl T c < T.length) (h1 : Fit r) (h2 : ¬ Fit o) : Calls Tryz.prog 60 #[.pointer (some ⟨p, 0, none⟩), .int .i64 c, .int .i64 r, .int .i64 o, .string t] w (VE w (.int .i64 1)) := by
 have HP := hid (place_any p v T c w h)
 rw [show idx T c = (pl T c : Int) from by unfold idx; rw [if_pos hk]] at HP
 have HN1 := hid (fun W => fits_yes r 0 W h1.1 h1.2)
 have HN2 := hid (fun W => fits_no o 0 W h2)
 generalize pl T c = k at *
 clear h hk h1 h2
 go_enter Tryz.func60, Tryz.ntmps60
 go_wp2_with (first
  | (go_at_call 62; refine HP.out.mono ?_; rintro e w2 ⟨rfl, rfl⟩)
  | (go_at_call 97; refine (HN1.out _).mono ?_; rintro e w3 ⟨rfl, rfl⟩; clear HN1)
  | (go_at_call 97; refine (HN2.out _).mono ?_; rintro e w3 ⟨rfl, rfl⟩))
 go_ret
 exact ⟨rfl, Below.refl _ _⟩
include h in
theorem rnot_5 (hk : pl T c < T.length) (h1 : Fit r) (h2 : Fit o) (ht : 200 < (t.size : Int)) : Calls Tryz.prog 60 #[.pointer (some ⟨p, 0, none⟩), .int .i64 c, .int .i64 r, .int .i64 o, .string t] w (VE w (.int .i64 5)) := by
 have HP := hid (place_any p v T c w h)
 rw [show idx T c = (pl T c : Int) from by unfold idx; rw [if_pos hk]] at HP
 have HN1 := hid (fun W => fits_yes r 0 W h1.1 h1.2)
 have HN2 := hid (fun W => fits_yes o 0 W h2.1 h2.2)
 generalize pl T c = k at *
 clear h hk h1 h2
 go_enter Tryz.func60, Tryz.ntmps60
 go_wp2_with (first
  | (go_at_call 62; refine HP.out.mono ?_; rintro e w2 ⟨rfl, rfl⟩)
  | (go_at_call 97; refine (HN1.out _).mono ?_; rintro e w3 ⟨rfl, rfl⟩; clear HN1)
  | (go_at_call 97; refine (HN2.out _).mono ?_; rintro e w3 ⟨rfl, rfl⟩))
 go_ret
 exact ⟨rfl, Below.refl _ _⟩
/-- three cells are written, one behind the other -/
theorem rnot_turn {w : World} {g k : Nat} (h : HasT w 51 p v T) (hg : v.ownBlock = some g) (hk : k < T.length) (h1 : Fit r) (h2 : Fit o) (ht : t.size ≤ 200) :
  ∃ (T1 T2 : List Ss), HasT (w.setCell ⟨g, k * 5 + 2, none⟩ (.int .i64 r)) 51 p v T1 ∧ HasT ((w.setCell ⟨g, k * 5 + 2, none⟩ (.int .i64 r)).setCell ⟨g, k * 5 + 3, none⟩ (.int .i64 o)) 51 p v T2 ∧ T1.length = T.length ∧ T2.length = T.length ∧
  HasT (((w.setCell ⟨g, k * 5 + 2, none⟩ (.int .i64 r)).setCell ⟨g, k * 5 + 3, none⟩ (.int .i64 o)).setCell ⟨g, k * 5 + 4, none⟩ (.string t)) 51 p v (T.set k (noted T[k] r o t)) ∧
  Fr w (((w.setCell ⟨g, k * 5 + 2, none⟩ (.int .i64 r)).setCell ⟨g, k * 5 + 3, none⟩ (.int .i64 o)).setCell ⟨g, k * 5 + 4, none⟩ (.string t)) (fpT p v) := by
 have hx := h.wf.ok T[k] (List.getElem_mem hk)
 have a1 := h.turn hg k 2 (.int .i64 r) ⟨T[k].c, T[k].s, r, T[k].o, T[k].t⟩ hk (by decide) rfl ⟨hx.c, hx.s, h1, hx.o, hx.t⟩
 have a2 := a1.turn hg k 3 (.int .i64 o) ⟨T[k].c, T[k].s, r, o, T[k].t⟩ (by rw [List.length_set]; exact hk) (by decide) (by rw [List.getElem_set_self]; rfl) ⟨hx.c, hx.s, h1, h2, hx.t⟩
 have a3 := a2.turn hg k 4 (.string t) (noted T[k] r o t) (by rw [List.length_set, List.length_set]; exact hk) (by decide) (by rw [List.getElem_set_self]; rfl) (noted_ok hx h1 h2 ht)
 rw [List.set_set] at a2
 rw [List.set_set, List.set_set] at a3
 refine ⟨_, _, a1, a2, by rw [List.length_set], by rw [List.length_set], a3, ?_⟩
 exact ((Fr.turn8 w _ _ hg).trans (Fr.turn8 _ _ _ hg) (fun _ h _ => h)).trans (Fr.turn8 _ _ _ hg) (fun _ h _ => h)
include h in
theorem rnot_0 (k : Nat) (hk : pl T c = k) (hkn : k < T.length) (h1 : Fit r) (h2 : Fit o) (ht : (t.size : Int) ≤ 200) : Calls Tryz.prog 60 #[.pointer (some ⟨p, 0, none⟩), .int .i64 c, .int .i64 r, .int .i64 o, .string t] w fun e w' => e = .returned (.int .i64 0) ∧ Gw8 51 p w (fpT p v) (T.set k (noted T[k] r o t)) w' := by
 obtain ⟨g, cap, ev, hcap, hg⟩ := own_some h.own (by omega : 0 < T.length)
 have HP := hid (place_any p v T c w h)
 rw [show idx T c = (k : Int) from by unfold idx; rw [hk, if_pos hkn]] at HP
 have HN1 := hid (fun W => fits_yes r 0 W h1.1 h1.2)
 have HN2 := hid (fun W => fits_yes o 0 W h2.1 h2.2)
 obtain ⟨T1, T2, a1, a2, l1, l2, a3, fr⟩ := rnot_turn p v T r o t h hg hkn h1 h2 (by omega)
 have d0 := h.c0
 have d1 := a1.c0
 have d2 := a2.c0
 rw [ev] at d0 d1 d2
 have m0 := h.frozen hg (k * 5 + 2)
 have m1 := a1.frozen hg (k * 5 + 3)
 have m2 := a2.frozen hg (k * 5 + 4)
 have n0 : w.cell? ⟨g, k * 5 + 2, none⟩ = some (.int .i64 T[k].r) := h.cell hg k 2 hkn (by decide)
 have n1 := a1.cell hg k 3 (by rw [l1]; exact hkn) (by decide)
 have n2 := a2.cell hg k 4 (by rw [l2]; exact hkn) (by decide)
 have hA1 : k < T1.length := by rw [l1]; exact hkn
 have hA2 : k < T2.length := by rw [l2]; exact hkn
 have n1' : (w.setCell ⟨g, k * 5 + 2, none⟩ (.int .i64 r)).cell? ⟨g, k * 5 + 3, none⟩ = some (.int .i64 T1[k].o) := n1
 have n2' : ((w.setCell ⟨g, k * 5 + 2, none⟩ (.int .i64 r)).setCell ⟨g, k * 5 + 3, none⟩ (.int .i64 o)).cell? ⟨g, k * 5 + 4, none⟩ = some (.string T2[k].t) := n2
 have HA3 := hid a3
 have HFR := hid fr
 have hk0 : (0 : Int) ≤ (k : Int) := by omega
 have hk1 : (k : Int) < (T.length : Int) := by omega
 have hn3 := h.wf.le
 generalize T.set k (noted T[k] r o t) = U at *
 generalize T[k].r = xr at *
 generalize T1[k].o = xo at *
 generalize T2[k].t = xt at *
 generalize T.length = n at *
 clear h hk hkn hg h1 h2 a1 a2 a3 fr l1 l2 n1 n2 ev hA1 hA2
 go_enter Tryz.func60, Tryz.ntmps60
 go_wp2_with (first
  | (go_at_call 62; refine HP.out.mono ?_; rintro e w2 ⟨rfl, rfl⟩)
  | (go_at_call 97; refine (HN1.out _).mono ?_; rintro e w3 ⟨rfl, rfl⟩; clear HN1)
  | (go_at_call 97; refine (HN2.out _).mono ?_; rintro e w3 ⟨rfl, rfl⟩))
 go_ret
 exact ⟨rfl, fpT p v, ⟨_, rfl, HA3.out⟩, HFR.out, fun _ h => .inl h⟩
end
theorem rnot_any (p : Nat) (fp : List Nat) (T : List Ss) (c r o : Int) (t : ByteArray) (w : World) (h : Gk8 51 p T fp w) : Calls Tryz.prog 60 #[.pointer (some ⟨p, 0, none⟩), .int .i64 c, .int .i64 r, .int .i64 o, .string t] w fun e w' => e = .returned (.int .i64 (notE T c r o t)) ∧ Gw8 51 p w fp (note T c r o t) w' := by
 have hG := h
 obtain ⟨v, rfl, h⟩ := h
 have same : ∀ {z : Int}, Calls Tryz.prog 60 #[.pointer (some ⟨p, 0, none⟩), .int .i64 c, .int .i64 r, .int .i64 o, .string t] w (VE w (.int .i64 z)) → z ≠ 0 → notE T c r o t = z → Calls Tryz.prog 60 #[.pointer (some ⟨p, 0, none⟩), .int .i64 c, .int .i64 r, .int .i64 o, .string t] w fun e w' => e = .returned (.int .i64 (notE T c r o t)) ∧ Gw8 51 p w (fpT p v) (note T c r o t) w' := by
  intro z hc hz hn
  refine hc.mono fun e w' hh => ⟨by rw [hn]; exact hh.1, ?_⟩
  have : note T c r o t = T := by unfold note; rw [hn, if_neg hz]
  rw [this]
  exact (Gw8.start hG).below hh.2
 by_cases h1 : pl T c < T.length
 ·
  by_cases h2 : ¬ Fit r ∨ ¬ Fit o
  ·
   refine same (z := 1) ?_ (by decide) (by unfold notE; rw [if_neg (fun q => q h1), if_pos h2])
   by_cases h3 : Fit r
   ·
    exact rnot_1b p v T c r o t w h h1 h3 (h2.resolve_left (fun q => q h3))
   ·
    exact rnot_1a p v T c r o t w h h1 h3
  ·
   by_cases h3 : 200 < t.size
   ·
    exact same (rnot_5 p v T c r o t w h h1 (by omega) (by omega) (by omega)) (by decide) (by unfold notE; rw [if_neg (fun q => q h1), if_neg h2, if_pos h3])
   ·
    have e0 : notE T c r o t = 0 := by unfold notE; rw [if_neg (fun q => q h1), if_neg h2, if_neg h3]
    unfold note
    rw [e0, if_pos rfl, at_get h1]
    exact rnot_0 p v T c r o t w h _ rfl h1 (by omega) (by omega) (by omega)
 ·
  exact same (rnot_8 p v T c r o t w h h1) (by decide) (by unfold notE; rw [if_pos h1])
theorem rver_any (p : Nat) (fp : List Nat) (T : List Ss) (c s r : Int) (w : World) (h : Gk8 51 p T fp w) : Calls Tryz.prog 13 #[.pointer (some ⟨p, 0, none⟩), .int .i64 c, .int .i64 s, .int .i64 r] w (VE w (.int .i64 (ver T c s r))) := by
 obtain ⟨v, -, h⟩ := h
 exact rver_has p v T c s r w h
theorem rlook_any (p : Nat) (fp : List Nat) (T : List Ss) (c : Int) (w : World) (h : Gk8 51 p T fp w) : Calls Tryz.prog 35 #[.pointer (some ⟨p, 0, none⟩), .int .i64 c] w (LK w (look T c) (looks T c)) := by
 obtain ⟨v, -, h⟩ := h
 exact rlook_has p v T c w h
/-- which one goes; three, if none does -/
def gi (T : List Ss) : Nat := if T.length < 3 then 3 else lst T
/-- the same, as the loop has it behind k rounds -/
def giK (T : List Ss) (k : Nat) : Int := if T.length < 3 then -1 else if k = 0 then -1 else (lstK T k : Int)
theorem gi_room {T : List Ss} (h : T.length ≤ 3) : T.eraseIdx (gi T) = room T := by
 unfold gi room
 by_cases h3 : T.length < 3
 ·
  rw [if_pos h3, if_pos h3, List.eraseIdx_of_length_le (by omega)]
 ·
  rw [if_neg h3, if_neg h3]
/-- the first k that stay -/
def stay (T : List Ss) (k : Nat) : List Ss := (T.take k).eraseIdx (gi T)
theorem stay_step {T : List Ss} {k : Nat} (h : k < T.length) : stay T (k + 1) = if k = gi T then stay T k else stay T k ++ [T[k]] := by
 have hl : (T.take k).length = k := by rw [List.length_take]; omega
 unfold stay
 rw [List.take_succ_eq_append_getElem h]
 by_cases h1 : gi T < k
 ·
  rw [if_neg (by omega), List.eraseIdx_append_of_lt_length (by omega)]
 ·
  rw [List.eraseIdx_append_of_length_le (by omega), hl]
  have e1 : (T.take k).eraseIdx (gi T) = T.take k := List.eraseIdx_of_length_le (by omega)
  by_cases h2 : k = gi T
  ·
   rw [if_pos h2, e1, show gi T - k = 0 by omega]
   simp
  ·
   rw [if_neg h2, e1, List.eraseIdx_of_length_le (by simp; omega)]
theorem stay_all {T : List Ss} (h : T.length ≤ 3) : stay T T.length = room T := by
 unfold stay
 rw [List.take_length, gi_room h]
theorem stay_le (T : List Ss) (k : Nat) : (stay T k).length ≤ k := by
 unfold stay
 have h1 := (List.eraseIdx_sublist (T.take k) (gi T)).length_le
 have h2 := List.length_take_le k T
 omega
/-- who goes, behind k rounds -/
def whoK (T : List Ss) (k : Nat) : Int := if k ≤ gi T then 0 else gone T
theorem whoK_all {T : List Ss} (h : T.length ≤ 3) : whoK T T.length = gone T := by
 unfold whoK
 by_cases h1 : T.length ≤ gi T
 ·
  rw [if_pos h1]
  unfold gi gone at *
  by_cases h3 : T.length < 3
  ·
   rw [if_pos h3]
  ·
   rw [if_neg h3] at h1
   have := lstK_lt T T.length (by omega)
   unfold lst at h1
   omega
 ·
  rw [if_neg h1]
theorem whoK_step {T : List Ss} {k : Nat} (hk : k < T.length) (h : T.length ≤ 3) : whoK T (k + 1) = if k = gi T then T[k].c else whoK T k := by
 unfold whoK
 by_cases h1 : k = gi T
 ·
  rw [if_pos h1, if_neg (by omega)]
  unfold gi at h1
  unfold gone
  by_cases h3 : T.length < 3
  ·
   rw [if_pos h3] at h1; omega
  ·
   rw [if_neg h3] at h1 ⊢
   rw [← h1, at_get hk]
 ·
  rw [if_neg h1]
  by_cases h2 : k ≤ gi T
  ·
   rw [if_pos (by omega), if_pos h2]
  ·
   rw [if_neg (by omega), if_neg h2]
theorem giK_test {T : List Ss} {k : Nat} (h : T.length ≤ 3) : ((k : Int) == giK T T.length) = decide (k = gi T ∧ ¬ T.length < 3) := by
 unfold giK gi
 by_cases h3 : T.length < 3
 ·
  rw [if_pos h3, decide_eq_false (by simp [h3])]
  exact beq_eq_false_iff_ne.2 (by omega)
 ·
  rw [if_neg h3, if_neg h3, if_neg (by omega)]
  unfold lst
  by_cases hk : k = lstK T T.length
  ·
   rw [decide_eq_true ⟨hk, h3⟩]; exact beq_iff_eq.2 (by omega)
  ·
   rw [decide_eq_false (fun q => hk q.1)]; exact beq_eq_false_iff_ne.2 (by omega)
section
variable (p : Nat) (c o : Int) (w : World)
theorem ropn_1a (h1 : ¬ Fit1 c) : Calls Tryz.prog 58 #[.pointer (some ⟨p, 0, none⟩), .int .i64 c, .int .i64 o] w (NN w 0 1) := by
 have HN1 := hid (fun W => fits_no c 1 W h1)
 clear h1
 go_enter Tryz.func58, Tryz.ntmps58
 go_wp2_with (first
  | (go_at_call 97; refine (HN1.out _).mono ?_; rintro e w3 ⟨rfl, hw⟩; obtain rfl := hw.symm; clear HN1))
 go_ret2
 exact ⟨rfl, Below.refl _ _⟩
theorem ropn_1b (h1 : Fit1 c) (h2 : ¬ Fit1 o) : Calls Tryz.prog 58 #[.pointer (some ⟨p, 0, none⟩), .int .i64 c, .int .i64 o] w (NN w 0 1) := by
 have HN1 := hid (fun W => fits_yes c 1 W h1.1 h1.2)
 have HN2 := hid (fun W => fits_no o 1 W h2)
 clear h1 h2
 go_enter Tryz.func58, Tryz.ntmps58
 go_wp2_with (first
  | (go_at_call 97; refine (HN1.out _).mono ?_; rintro e w3 ⟨rfl, hw⟩; obtain rfl := hw.symm; clear HN1)
  | (go_at_call 97; refine (HN2.out _).mono ?_; rintro e w3 ⟨rfl, hw⟩; obtain rfl := hw.symm))
 go_ret2
 exact ⟨rfl, Below.refl _ _⟩
theorem ropn_7 (v : Value) (T : List Ss) (h : HasT w 51 p v T) (h1 : Fit1 c) (h2 : Fit1 o) (hk : pl T c < T.length) : Calls Tryz.prog 58 #[.pointer (some ⟨p, 0, none⟩), .int .i64 c, .int .i64 o] w (NN w 0 7) := by
 have HN1 := hid (fun W => fits_yes c 1 W h1.1 h1.2)
 have HN2 := hid (fun W => fits_yes o 1 W h2.1 h2.2)
 have HP := hid (place_any p v T c w h)
 rw [show idx T c = (pl T c : Int) from by unfold idx; rw [if_pos hk]] at HP
 generalize pl T c = k at *
 clear h hk h1 h2
 go_enter Tryz.func58, Tryz.ntmps58
 go_wp2_with (first
  | (go_at_call 97; refine (HN1.out _).mono ?_; rintro e w3 ⟨rfl, hw⟩; obtain rfl := hw.symm; clear HN1)
  | (go_at_call 97; refine (HN2.out _).mono ?_; rintro e w3 ⟨rfl, hw⟩; obtain rfl := hw.symm)
  | (go_at_call 62; refine HP.out.mono ?_; rintro e w2 ⟨rfl, hw⟩; obtain rfl := hw.symm))
 go_ret2
 exact ⟨rfl, Below.refl _ _⟩
theorem ropn_0 (v : Value) (T : List Ss) (h : HasT w 51 p v T) (h1 : Fit1 c) (h2 : Fit1 o) (hk : ¬ pl T c < T.length) : Calls Tryz.prog 58 #[.pointer (some ⟨p, 0, none⟩), .int .i64 c, .int .i64 o] w fun e w' => e = .returned (.tuple #[.int .i64 (gone T), .int .i64 0]) ∧ Gw8 51 p w (fpT p v) (room T ++ [fresh c o]) w' := by
 obtain ⟨i0, hi, hz0, hz1, hz2⟩ := info_parts ssInfo
 have hT3 := h.wf.le
 have HWF : Hid (WF (room T ++ [fresh c o])) := hid (by
  have := opn_wf h.wf c o
  have e : opnE T c o = 0 := by unfold opnE; rw [if_neg (by omega), if_neg hk]
  unfold opn at this
  rw [if_pos e] at this
  exact this)
 have HN1 := hid (fun W => fits_yes c 1 W h1.1 h1.2)
 have HN2 := hid (fun W => fits_yes o 1 W h2.1 h2.2)
 have HP := hid (place_any p v T c w h)
 rw [show idx T c = -1 from by unfold idx; rw [if_neg hk]] at HP
 have HH := hid (fun W (hW : Below w.heap.size w W) => h.below hW)
 obtain ⟨A, cap, ev, hcap, -⟩ := h.shape
 have HC0 := hid (fun W (hW : Below w.heap.size w W) => show W.cell? ⟨p, 0, none⟩ = some (.slice A T.length cap) from by rw [← ev]; exact (h.below hW).c0)
 have HRW := hid (fun W (hW : Below w.heap.size w W) => show Rd W w.heap.size A (rows Ss.cells T) from by
  obtain ⟨A', c', e', -, hr⟩ := h.shape
  rw [ev] at e'
  simp only [Value.slice.injEq, true_and] at e'
  rw [e'.1]
  exact hr.below hW (Nat.le_refl _))
 have HST := hid (fun k (hk : k < T.length) => stay_step hk)
 have HWS := hid (fun k (hk : k < T.length) => whoK_step hk hT3)
 have HGT := hid (fun k => giK_test (T := T) (k := k) hT3)
 have HSL := hid (stay_le T)
 have HSA := hid (stay_all hT3)
 have HWA := hid (whoK_all hT3)
 have HRL := hid (room_le hT3)
 have HS0 : Hid (stay T 0 = []) := hid (by unfold stay; simp)
 have HW0 : Hid (whoK T 0 = 0) := hid (by unfold whoK; rw [if_pos (Nat.zero_le _)])
 have HLT := hid (fun (h3 : T.length = 3) k (hk : k ≤ 3) => lst_lt h3 k hk)
 have HGK0 : Hid (T.length = 3 → giK T 1 = 0) := hid fun h3 => by
  unfold giK
  rw [if_neg (by omega), if_neg (by omega), lstK_one]
  rfl
 have HGK : Hid (∀ k (hk : k < T.length) (h3 : T.length = 3), giK T (k + 1) = if T[k].o < (T[lstK T k]'(lst_lt h3 k (by omega))).o then (k : Int) else (lstK T k : Int)) := hid (by
  intro k hk h3
  unfold giK
  rw [if_neg (by omega), if_neg (by omega), lstK, at_get hk, at_get (lst_lt h3 k (by omega))]
  by_cases hl : T[k].o < (T[lstK T k]'(lst_lt h3 k (by omega))).o
  ·
   rw [if_pos hl, if_pos hl]
  ·
   rw [if_neg hl, if_neg hl])
 have HG0 : Hid (giK T 0 = -1) := hid (by unfold giK; split <;> rfl)
 have HGP : Hid (∀ k, 0 < k → T.length = 3 → giK T k = (lstK T k : Int)) := hid (by intro k hk h3; unfold giK; rw [if_neg (by omega), if_neg (by omega)])
 have HGF : Hid (T.length < 3 → ∀ k, giK T k = -1) := hid (by intro h3 k; unfold giK; rw [if_pos h3])
 have HZ := hid ssSize
 obtain ⟨n, hn⟩ : ∃ n, T.length = n := ⟨_, rfl⟩
 have HN := hid hn
 rw [hn] at hT3 hcap HC0 HSA HWA HGT
 have HG3 : Hid (n < 3 → gi T = 3) := hid (by intro h3; unfold gi; rw [if_pos (by rw [HN.out]; exact h3)])
 have HEM : Hid (∀ W : World, (W.alloc (.cells #[] 75)).ownsRow W.heap.size 75 5 (.slice (some ⟨W.heap.size, 0, none⟩) 0 0) 0 []) := hid fun W => own_empty (Row.new _ _ #[]) (Nat.le_refl _)
 have HNX : Hid (∀ (W : World) (X : List Value), Hid (Rd (W.alloc (.cells X.toArray 75)) (W.heap.size + 1) (some ⟨W.heap.size, 0, none⟩) X)) := hid fun W X => hid (Row.rd (e := 75) (show Row (W.alloc (.cells X.toArray 75)) W.heap.size 75 X from by simpa using Row.new W 75 X.toArray) (Nat.lt_succ_self _))
 have hc0 := HC0.out w (Below.refl _ _)
 clear h hk h1 h2 hn ev
 go_enter Tryz.func58, Tryz.ntmps58
 go_wp2_with (first
  | (go_at_call 97; refine (HN1.out _).mono ?_; rintro e w3 ⟨rfl, hw⟩; obtain rfl := hw.symm; clear HN1)
  | (go_at_call 97; refine (HN2.out _).mono ?_; rintro e w3 ⟨rfl, hw⟩; obtain rfl := hw.symm)
  | (go_at_call 62; refine HP.out.mono ?_; rintro e w2 ⟨rfl, hw⟩; obtain rfl := hw.symm))
 clear hc0
 go_loopw [8, 9] (fun gv iv wr => ∃ k : Nat, k ≤ n ∧ (n < 3 → k = 0) ∧ iv = .int .i64 (k : Int) ∧ gv = .int .i64 (giK T k) ∧ Below w.heap.size w wr) (fun _ iv _ => n - (intOf iv).toNat)
 case atStart => exact ⟨0, by omega, fun _ => rfl, rfl, by rw [HG0.out], Below.refl _ _⟩
 case round =>
  obtain ⟨k, hk, hk3, rfl, rfl, hbe⟩ := hrel
  have HBE := hid hbe
  have hc0 := HC0.out wr hbe
  have hk0 : (0 : Int) ≤ (k : Int) := by omega
  by_cases hgo : k < n ∧ n = 3
  ·
   obtain ⟨hlt, hn3⟩ := hgo
   have hkl : k < T.length := by rw [HN.out]; exact hlt
   have h3 : T.length = 3 := by rw [HN.out]; exact hn3
   have hk1 : (k : Int) < (n : Int) := by omega
   have hn3i : (3 : Int) ≤ (n : Int) := by omega
   obtain ⟨ga, oa, rfl⟩ := shape_of (HRW.out wr hbe) Ss.len (by decide) (by omega)
   by_cases hkz : k = 0
   ·
    subst hkz
    rw [HG0.out]
    have HGE := hid (HGK0.out h3)
    clear hbe hk3
    go_wp2_with fail
    go_quiet (fail)
    go_wp2_with fail
    exact ⟨⟨1, by omega, by omega, rfl, by rw [HGE.out] <;> rfl, by simpa using below_drewN HBE.out _⟩, by simp [intOf]; omega⟩
   ·
    have hl := lst_lt h3 k (by omega)
    have hok := (HRW.out wr hbe).range Ss.len k hkl 3 _ rfl
    have hol := (HRW.out wr hbe).range Ss.len (lstK T k) hl 3 _ rfl
    rw [HGP.out k (by omega) h3]
    have hgk := HGK.out k hkl h3
    generalize T[k].o = ok at *
    generalize T[lstK T k].o = ol at *
    obtain ⟨l, hll⟩ : ∃ l, lstK T k = l := ⟨_, rfl⟩
    rw [hll] at hl hol hgk ⊢
    have hl0 : (0 : Int) ≤ (l : Int) := by omega
    have hl1 : (l : Int) < (n : Int) := by omega
    have hl2 : decide ((l : Int) < 0) = false := decide_eq_false (by omega)
    clear hll hbe
    by_cases hd : ok < ol
    ·
     have hd' : decide (ok < ol) = true := decide_eq_true hd
     rw [if_pos hd] at hgk
     have HGE := hid hgk
     clear hgk hd hk3 hkz
     go_wp2_with fail
     go_quiet (fail)
     go_wp2_with fail
     exact ⟨⟨k + 1, by omega, by omega, by go_num, by rw [HGE.out], below_drewN HBE.out _⟩, by simp [intOf]; omega⟩
    ·
     have hd' : decide (ok < ol) = false := decide_eq_false hd
     rw [if_neg hd] at hgk
     have HGE := hid hgk
     clear hgk hd hk3 hkz
     go_wp2_with fail
     go_quiet (fail)
     go_wp2_with fail
     exact ⟨⟨k + 1, by omega, by omega, by go_num, by rw [HGE.out], below_drewN HBE.out _⟩, by simp [intOf]; omega⟩
  ·
   have hend : (n < 3 ∧ k = 0) ∨ k = n := by
    rcases Nat.lt_or_ge n 3 with hh | hh
    ·
     exact .inl ⟨hh, hk3 hh⟩
    ·
     right; omega
   have HGI : Hid (giK T k = giK T n) := hid (by
    rcases hend with ⟨a, b⟩ | a
    ·
     rw [HGF.out (by rw [HN.out]; exact a), HGF.out (by rw [HN.out]; exact a)]
    ·
     rw [a])
   have hcond : (¬ (k : Int) < (n : Int)) ∨ ((k : Int) < (n : Int) ∧ ¬ (3 : Int) ≤ (n : Int)) := by
    by_cases h4 : k < n
    ·
     right
     exact ⟨by omega, by omega⟩
    ·
     left
     omega
   rw [HGI.out]
   generalize giK T n = gz at *
   clear hend hbe hk3
   rcases hcond with q1 | ⟨q1, q2⟩
   ·
    go_wp2_with fail
    go_loopw [10, 11, 12] (fun qv lv iv wq => ∃ j m : Nat, j ≤ n ∧ iv = .int .i64 (j : Int) ∧ qv = .int .i64 (whoK T j) ∧ Hid (m = (stay T j).length) ∧ wq.ownsRow w.heap.size 75 5 lv m (rows Ss.cells (stay T j)) ∧ Below w.heap.size w wq) (fun _ _ iv _ => n - (intOf iv).toNat)
    case atStart => exact ⟨0, 0, by omega, rfl, by rw [HW0.out], hid (by rw [HS0.out]; rfl), by rw [HS0.out]; exact own_base (HEM.out wr) HBE.out.size, HBE.out.alloc HBE.out.size _⟩
    case round =>
     obtain ⟨j, m, hj, rfl, rfl, HM, ho, hbq⟩ := hrel
     have HBQ := hid hbq
     have HO := hid ho
     have hc1 := HC0.out wr hbq
     have hj0 : (0 : Int) ≤ (j : Int) := by omega
     have hmj : m ≤ 3 := by have := HSL.out j; rw [← HM.out] at this; omega
     by_cases hlt : j < n
     ·
      have hjl : j < T.length := by rw [HN.out]; exact hlt
      have hj1 : (j : Int) < (n : Int) := by omega
      obtain ⟨ga, oa, rfl⟩ := shape_of (HRW.out wr hbq) Ss.len (by decide) (by omega)
      have hrg := (HRW.out wr hbq).range Ss.len j hjl
      have hst := HST.out j hjl
      have hws := HWS.out j hjl
      have hgt := HGT.out j
      by_cases ht : j = gi T ∧ ¬ n < 3
      ·
       rw [decide_eq_true ht] at hgt
       rw [if_pos ht.1] at hst hws
       have hcc := hrg 0 _ rfl
       rw [Nat.add_zero] at hcc
       have HST1 := hid hst
       have HWS1 := hid hws
       generalize T[j].c = xc at *
       clear hst hws ht hrg ho hbq
       go_wp2_with fail
       exact ⟨⟨j + 1, m, by omega, by go_num, by rw [HWS1.out], hid (by rw [HST1.out]; exact HM.out), by rw [HST1.out]; exact HO.out, HBQ.out⟩, by simp [intOf]; omega⟩
      ·
       rw [decide_eq_false ht] at hgt
       have hne : j ≠ gi T := by
        intro e
        by_cases h3 : n < 3
        ·
         have := HG3.out h3; omega
        ·
         exact ht ⟨e, h3⟩
       rw [if_neg hne] at hst hws
       have HST1 := hid hst
       have HWS1 := hid hws
       have HC5 : Hid ((Ss.cells T[j]).length = 5) := hid (Ss.len _)
       have HC1 := hid (Ss.ones T[j])
       have HR1 : Hid (rows Ss.cells (stay T j ++ [T[j]]) = rows Ss.cells (stay T j) ++ Ss.cells T[j]) := hid (by rw [rows_app, rows1])
       have HL1 : Hid ((stay T j ++ [T[j]]).length = (stay T j).length + 1) := hid (by simp)
       generalize stay T j ++ [T[j]] = V at *
       generalize Ss.cells T[j] = X at *
       have HRG := hid hrg
       clear hst hws hne ht hrg ho hbq
       go_wp2_with (first
        | (refine wpList_load_mid rfl 75 (.tmp 91) rfl ga (oa + j * 5) rfl X _ HRG.out Tryz.underlying75 rfl (by rw [HC5.out]; exact HZ.out) ?_)
        | (refine wpl_slice1 rfl 48 75 (.tmp 92) rfl i0 _ 5 Tryz.underlying48 hi hz0 hz1 (by decide) (by decide) X rfl HC5.out ?_)
        | (refine wpl_append rfl (.tmp 85) (.tmp 93) 48 rfl w.heap.size 75 i0 _ 5 48 Tryz.underlying48 hi hz0 hz1 hz2 rfl (by omega) _ m _ rfl (HO.out.alloc _) (wr.heap.size + 1) (some ⟨wr.heap.size, 0, none⟩) 1 1 X rfl ?_ (HNX.out wr X) (hid HC5.out) (hid HC1.out) (hid (le_maxLen (by omega))) (hid (by omega)) (hid (by have := HBQ.out.size; simp; omega)); intro v2 w2 hown2 hb2 hg2; have HO2 := hid hown2; have HB2 := hid (((Below.refl w.heap.size w).trans (HBQ.out.alloc HBQ.out.size _)).trans hb2); clear hown2 hb2 hg2))
       exact ⟨⟨j + 1, m + 1, by omega, by go_num, by rw [HWS1.out], hid (by rw [HST1.out, HL1.out, HM.out]), by rw [HST1.out, HR1.out]; exact HO2.out, HB2.out⟩, by simp [intOf]; omega⟩
     ·
      obtain rfl : j = n := by omega
      have hj1 : ¬ (j : Int) < (j : Int) := by omega
      have HCF := hid (Ss.ones (fresh c o))
      go_wp2_with (first
       | (refine wpl_slice1 rfl 48 75 (.tmp 100) rfl i0 _ 5 Tryz.underlying48 hi hz0 hz1 (by decide) (by decide) [.int .i64 c, .int .i64 o, .int .i64 0, .int .i64 o, .string ⟨#[]⟩] rfl rfl ?_)
       | (refine wpl_append rfl (.tmp 96) (.tmp 101) 48 rfl w.heap.size 75 i0 _ 5 48 Tryz.underlying48 hi hz0 hz1 hz2 rfl (by omega) _ m _ rfl (HO.out.alloc _) (wr.heap.size + 1) (some ⟨wr.heap.size, 0, none⟩) 1 1 (Ss.cells (fresh c o)) rfl ?_ (HNX.out wr (Ss.cells (fresh c o))) (hid rfl) HCF (hid (le_maxLen (by omega))) (hid (by omega)) (hid (by have := HBQ.out.size; simp; omega)); intro v2 w2 hown2 hb2 hg2; obtain ⟨g2, cap2, rfl, -, -⟩ := hown2.form (by omega); have HO2 := hid hown2; have HB2 := hid (((Below.refl w.heap.size w).trans (HBQ.out.alloc HBQ.out.size _)).trans hb2); have d0 := (HH.out _ HB2.out).c0; have d1 := (HH.out _ HB2.out).f 0; clear hown2 hb2 hg2))
      go_ret2
      have ho2 := HO2.out
      have hlen : m + 1 = (room T ++ [fresh c o]).length := by rw [List.length_append, ← HSA.out, HM.out]; rfl
      rw [HSA.out] at ho2
      have hM := (HH.out w (Below.refl _ _)).put (v' := .slice (some ⟨g2, 0, none⟩) (m + 1) cap2) (T' := room T ++ [fresh c o]) ((Fr.of_below HB2.out).mono (by simp)) (by rw [rows_app, rows1, ← hlen]; exact own_zero ho2 0 (fun _ _ => Nat.zero_le _)) (fun b hb => .inr (HO2.out.lt b hb).1) HWF.out
      exact ⟨by rw [HWA.out]; rfl, _, ⟨_, rfl, hM.1⟩, hM.2.1, hM.2.2⟩
   ·
    go_wp2_with fail
    go_loopw [10, 11, 12] (fun qv lv iv wq => ∃ j m : Nat, j ≤ n ∧ iv = .int .i64 (j : Int) ∧ qv = .int .i64 (whoK T j) ∧ Hid (m = (stay T j).length) ∧ wq.ownsRow w.heap.size 75 5 lv m (rows Ss.cells (stay T j)) ∧ Below w.heap.size w wq) (fun _ _ iv _ => n - (intOf iv).toNat)
    case atStart => exact ⟨0, 0, by omega, rfl, by rw [HW0.out], hid (by rw [HS0.out]; rfl), by rw [HS0.out]; exact own_base (HEM.out wr) HBE.out.size, HBE.out.alloc HBE.out.size _⟩
    case round =>
     obtain ⟨j, m, hj, rfl, rfl, HM, ho, hbq⟩ := hrel
     have HBQ := hid hbq
     have HO := hid ho
     have hc1 := HC0.out wr hbq
     have hj0 : (0 : Int) ≤ (j : Int) := by omega
     have hmj : m ≤ 3 := by have := HSL.out j; rw [← HM.out] at this; omega
     by_cases hlt : j < n
     ·
      have hjl : j < T.length := by rw [HN.out]; exact hlt
      have hj1 : (j : Int) < (n : Int) := by omega
      obtain ⟨ga, oa, rfl⟩ := shape_of (HRW.out wr hbq) Ss.len (by decide) (by omega)
      have hrg := (HRW.out wr hbq).range Ss.len j hjl
      have hst := HST.out j hjl
      have hws := HWS.out j hjl
      have hgt := HGT.out j
      by_cases ht : j = gi T ∧ ¬ n < 3
      ·
       rw [decide_eq_true ht] at hgt
       rw [if_pos ht.1] at hst hws
       have hcc := hrg 0 _ rfl
       rw [Nat.add_zero] at hcc
       have HST1 := hid hst
       have HWS1 := hid hws
       generalize T[j].c = xc at *
       clear hst hws ht hrg ho hbq
       go_wp2_with fail
       exact ⟨⟨j + 1, m, by omega, by go_num, by rw [HWS1.out], hid (by rw [HST1.out]; exact HM.out), by rw [HST1.out]; exact HO.out, HBQ.out⟩, by simp [intOf]; omega⟩
      ·
       rw [decide_eq_false ht] at hgt
       have hne : j ≠ gi T := by
        intro e
        by_cases h3 : n < 3
        ·
         have := HG3.out h3; omega
        ·
         exact ht ⟨e, h3⟩
       rw [if_neg hne] at hst hws
       have HST1 := hid hst
       have HWS1 := hid hws
       have HC5 : Hid ((Ss.cells T[j]).length = 5) := hid (Ss.len _)
       have HC1 := hid (Ss.ones T[j])
       have HR1 : Hid (rows Ss.cells (stay T j ++ [T[j]]) = rows Ss.cells (stay T j) ++ Ss.cells T[j]) := hid (by rw [rows_app, rows1])
       have HL1 : Hid ((stay T j ++ [T[j]]).length = (stay T j).length + 1) := hid (by simp)
       generalize stay T j ++ [T[j]] = V at *
       generalize Ss.cells T[j] = X at *
       have HRG := hid hrg
       clear hst hws hne ht hrg ho hbq
       go_wp2_with (first
        | (refine wpList_load_mid rfl 75 (.tmp 91) rfl ga (oa + j * 5) rfl X _ HRG.out Tryz.underlying75 rfl (by rw [HC5.out]; exact HZ.out) ?_)
        | (refine wpl_slice1 rfl 48 75 (.tmp 92) rfl i0 _ 5 Tryz.underlying48 hi hz0 hz1 (by decide) (by decide) X rfl HC5.out ?_)
        | (refine wpl_append rfl (.tmp 85) (.tmp 93) 48 rfl w.heap.size 75 i0 _ 5 48 Tryz.underlying48 hi hz0 hz1 hz2 rfl (by omega) _ m _ rfl (HO.out.alloc _) (wr.heap.size + 1) (some ⟨wr.heap.size, 0, none⟩) 1 1 X rfl ?_ (HNX.out wr X) (hid HC5.out) (hid HC1.out) (hid (le_maxLen (by omega))) (hid (by omega)) (hid (by have := HBQ.out.size; simp; omega)); intro v2 w2 hown2 hb2 hg2; have HO2 := hid hown2; have HB2 := hid (((Below.refl w.heap.size w).trans (HBQ.out.alloc HBQ.out.size _)).trans hb2); clear hown2 hb2 hg2))
       exact ⟨⟨j + 1, m + 1, by omega, by go_num, by rw [HWS1.out], hid (by rw [HST1.out, HL1.out, HM.out]), by rw [HST1.out, HR1.out]; exact HO2.out, HB2.out⟩, by simp [intOf]; omega⟩
     ·
      obtain rfl : j = n := by omega
      have hj1 : ¬ (j : Int) < (j : Int) := by omega
      have HCF := hid (Ss.ones (fresh c o))
      go_wp2_with (first
       | (refine wpl_slice1 rfl 48 75 (.tmp 100) rfl i0 _ 5 Tryz.underlying48 hi hz0 hz1 (by decide) (by decide) [.int .i64 c, .int .i64 o, .int .i64 0, .int .i64 o, .string ⟨#[]⟩] rfl rfl ?_)
       | (refine wpl_append rfl (.tmp 96) (.tmp 101) 48 rfl w.heap.size 75 i0 _ 5 48 Tryz.underlying48 hi hz0 hz1 hz2 rfl (by omega) _ m _ rfl (HO.out.alloc _) (wr.heap.size + 1) (some ⟨wr.heap.size, 0, none⟩) 1 1 (Ss.cells (fresh c o)) rfl ?_ (HNX.out wr (Ss.cells (fresh c o))) (hid rfl) HCF (hid (le_maxLen (by omega))) (hid (by omega)) (hid (by have := HBQ.out.size; simp; omega)); intro v2 w2 hown2 hb2 hg2; obtain ⟨g2, cap2, rfl, -, -⟩ := hown2.form (by omega); have HO2 := hid hown2; have HB2 := hid (((Below.refl w.heap.size w).trans (HBQ.out.alloc HBQ.out.size _)).trans hb2); have d0 := (HH.out _ HB2.out).c0; have d1 := (HH.out _ HB2.out).f 0; clear hown2 hb2 hg2))
      go_ret2
      have ho2 := HO2.out
      have hlen : m + 1 = (room T ++ [fresh c o]).length := by rw [List.length_append, ← HSA.out, HM.out]; rfl
      rw [HSA.out] at ho2
      have hM := (HH.out w (Below.refl _ _)).put (v' := .slice (some ⟨g2, 0, none⟩) (m + 1) cap2) (T' := room T ++ [fresh c o]) ((Fr.of_below HB2.out).mono (by simp)) (by rw [rows_app, rows1, ← hlen]; exact own_zero ho2 0 (fun _ _ => Nat.zero_le _)) (fun b hb => .inr (HO2.out.lt b hb).1) HWF.out
      exact ⟨by rw [HWA.out]; rfl, _, ⟨_, rfl, hM.1⟩, hM.2.1, hM.2.2⟩
end
theorem ropn_any (p : Nat) (fp : List Nat) (T : List Ss) (c o : Int) (w : World) (h : Gk8 51 p T fp w) : Calls Tryz.prog 58 #[.pointer (some ⟨p, 0, none⟩), .int .i64 c, .int .i64 o] w fun e w' => e = .returned (.tuple #[.int .i64 (opnL T c o), .int .i64 (opnE T c o)]) ∧ Gw8 51 p w fp (opn T c o) w' := by
 have hG := h
 obtain ⟨v, rfl, h⟩ := h
 unfold opnL opn
 by_cases h1 : ¬ Fit1 c ∨ ¬ Fit1 o
 ·
  have e : opnE T c o = 1 := by unfold opnE; rw [if_pos h1]
  rw [e, if_neg (by decide), if_neg (by decide)]
  by_cases h2 : Fit1 c
  ·
   exact (ropn_1b p c o w h2 (h1.resolve_left (fun q => q h2))).mono fun e w' hh => ⟨hh.1, (Gw8.start hG).below hh.2⟩
  ·
   exact (ropn_1a p c o w h2).mono fun e w' hh => ⟨hh.1, (Gw8.start hG).below hh.2⟩
 ·
  by_cases h2 : pl T c < T.length
  ·
   have e : opnE T c o = 7 := by unfold opnE; rw [if_neg h1, if_pos h2]
   rw [e, if_neg (by decide), if_neg (by decide)]
   exact (ropn_7 p c o w v T h (by omega) (by omega) h2).mono fun e w' hh => ⟨hh.1, (Gw8.start hG).below hh.2⟩
  ·
   have e : opnE T c o = 0 := by unfold opnE; rw [if_neg h1, if_neg h2]
   rw [e, if_pos rfl, if_pos rfl]
   exact ropn_0 p c o w v T h (by omega) (by omega) h2
theorem right_no (l : List Nat) (k : Nat) (hk : k < l.length) (h : mo k < l[k]) : ¬ Fits l := fun hf => by
 have := hf.2 k hk
 omega
theorem right_any (h : Hd) (w : World) (hf : Fd w) : Calls Tryz.prog 115 #[h.val] w (VE w (.bool (decide (Fits h.nums)))) := by
 have hl := nums_len h
 have HN := hid (fun W => numbers_any h W)
 have HF := hid hf
 clear hf
 obtain ⟨kind, frm, oper, view, opn, commit, client, session, request, a, b, parent⟩ := h
 have HN2 : Hid (∀ W : World, Calls Tryz.prog 116 #[.agg #[.int .i64 kind, .int .i64 frm, .int .i64 oper, .int .i64 view, .int .i64 opn, .int .i64 commit, .int .i64 client, .int .i64 session, .int .i64 request, .int .i64 a, .int .i64 b, .int .u64 (parent : Int)]] W (VE W (.agg (av (Hd.nums ⟨kind, frm, oper, view, opn, commit, client, session, request, a, b, parent⟩)).toArray))) := hid HN.out
 show Calls Tryz.prog 115 #[.agg #[.int .i64 kind, .int .i64 frm, .int .i64 oper, .int .i64 view, .int .i64 opn, .int .i64 commit, .int .i64 client, .int .i64 session, .int .i64 request, .int .i64 a, .int .i64 b, .int .u64 (parent : Int)]] w _
 generalize Hd.nums ⟨kind, frm, oper, view, opn, commit, client, session, request, a, b, parent⟩ = L at *
 clear HN
 have HL := hid hl
 clear hl
 go_enter Tryz.func115, Tryz.ntmps115
 go_wp2_with (go_at_call 116; refine (HN2.out _).mono ?_; rintro e w1 ⟨rfl, hb1⟩)
 have hb : Below w.heap.size w w1 := ((Below.refl _ _).alloc (Nat.le_refl _) _).trans (hb1.mono (by simp))
 have HF1 := hid (HF.out.below hb HF.out.1)
 have HB := hid hb
 clear hb hb1
 go_loop [7] (fun i => ∃ k : Nat, k ≤ 15 ∧ i = .int .i64 k ∧ Hid (∀ j (hj : j < L.length), j < k → L[j] ≤ mo j)) (fun i => 15 - (intOf i).toNat)
 case atStart => exact ⟨0, by omega, rfl, hid (fun j _ hj => by omega)⟩
 case round =>
  obtain ⟨k, hk, rfl, hpast⟩ := hrel
  by_cases hlt : k < 15
  ·
   have hkl : k < L.length := by rw [HL.out]; exact hlt
   have hix := run_index_arr (P := Tryz.prog) w1 149 29 15 (av L).toArray .i64 k _ .u64 Tryz.underlying149 Tryz.underlying29 (by kernel_rfl) hlt (by simpa using av_get L k hkl)
   have hc := HF1.out.most hlt
   generalize hx : L[k] = x at hix
   generalize hm : mo k = m at hc
   have HX := hid hx
   have HM := hid hm
   clear hx hm
   by_cases hle : x ≤ m
   ·
    go_wp2_with fail
    refine ⟨⟨k + 1, by omega, by go_num, hid (fun j hj hjk => ?_)⟩, by simp [intOf]; omega⟩
    by_cases e : j = k
    ·
     subst e
     rw [HX.out, HM.out]
     exact hle
    ·
     exact hpast.out j hj (by omega)
   ·
    go_wp2_with fail
    go_ret
    have hno : decide (Fits L) = false := decide_eq_false (right_no L k hkl (by rw [HX.out, HM.out]; omega))
    rw [hno]
    exact ⟨rfl, HB.out⟩
  ·
   obtain rfl : k = 15 := by omega
   go_wp2_with fail
   go_ret
   have hyes : decide (Fits L) = true := decide_eq_true ⟨HL.out, fun j hj => hpast.out j hj (by rw [HL.out] at hj; exact hj)⟩
   rw [hyes]
   exact ⟨rfl, HB.out⟩
theorem bvs_zero (n : Nat) : List.replicate n (Value.int .u8 0) = bvs (List.replicate n 0) := by simp [bvs, bv]
/-- Put of a number that fits -/
theorem put_fit (A : Option Addr) (bs : List UInt8) (c n s B : Nat) (W : World) (hr : Rd W B A (bvs bs)) (hs : 1 ≤ s ∧ s ≤ 8) (hn : n < 2 ^ (8 * s)) (hB : B ≤ W.heap.size) (hl : bs.length ≤ 140737488351232) :
  Calls Tryz.prog 69 #[.slice A bs.length c, .int .u64 (n : Int), .int .i64 (s : Int)] W
  fun e w' => ∃ A c, e = .returned (.tuple #[.slice A (bs.length + s) c, .int .i64 0]) ∧ w'.ownsRow W.heap.size 5 1 (.slice A (bs.length + s) c) (bs.length + s) (bvs (bs ++ le n s)) ∧ Below W.heap.size W w' := by
 have h := put_any A bs bs.length c n B s W hr rfl hB hl
 have e : putS bs n s = (bs ++ le n s, 0) := by
  unfold putS
  rw [if_pos ⟨by omega, by omega, Nat.div_eq_of_lt (by simpa using hn)⟩]
  simp
 rw [e] at h
 refine h.mono fun e w' hh => BE.len hh (by simp [le_len])
theorem sum_of (b : List UInt8) (hb : b.length ≤ 1000000) (W : World) : Calls Tryz.prog 117 #[.string ⟨b.toArray⟩] W fun e w' => e = .returned (.int .u32 ((addS 0#32 b).toNat : Int)) ∧ Below W.heap.size W w' := by
 have h := sum_calls ⟨b.toArray⟩ W (by rw [← sb_len, sb_mk]; omega)
 rw [sb_mk] at h
 exact h
theorem put_sum0 (x : BitVec 32) (W : World) : Calls Tryz.prog 69 #[.slice none 0 0, .int .u64 (x.toNat : Int), .int .i64 4] W
  fun e w' => ∃ A c, e = .returned (.tuple #[.slice A 4 c, .int .i64 0]) ∧ Rd w' w'.heap.size A (bvs (le x.toNat 4)) ∧ Below W.heap.size W w' := by
 have h := put_fit none [] 0 x.toNat 4 0 W Rd.nil (by omega) x.isLt (by omega) (by simp)
 refine h.mono fun e w' ⟨A, c, e1, ho, hb⟩ => ⟨A, c, e1, ?_, hb⟩
 obtain ⟨A', c', e2, _, _, hrd⟩ := own_shape ho
 cases e2
 exact hrd
theorem fits_lt {l : List Nat} (h : Fits l) (k : Nat) (hk : k < l.length) : l[k] < 2 ^ (8 * sz k) := Nat.lt_of_le_of_lt (h.2 k hk) (mo_lt k (by rw [← h.1]; exact hk))
theorem layh_any (l : List Nat) (hfit : Fits l) (w : World) (hf : Fd w) : Calls Tryz.prog 118 #[.agg (av l).toArray] w (SE w (headB l)) := by
 obtain ⟨i0, hi, hz0, hz1, hz2⟩ := info_parts u8info
 have HF := hid hf
 have HFit := hid hfit
 have HL := hid hfit.1
 have HA : Hid ((av l).toArray.size = 15) := hid (by simp [av, hfit.1])
 clear hf hfit
 go_enter Tryz.func118, Tryz.ntmps118
 go_wp2_with (refine wpList_load_row rfl 149 (.tmp 1) rfl w.heap.size rfl 149 (av l).toArray (0, 0) _ (heap_alloc_new _ _) Tryz.underlying149 rfl (by rw [HA.out]; kernel_rfl) ?_)
 have hb0 : Below w.heap.size w (w.alloc (.cells (av l).toArray 149)) := (Below.refl _ _).alloc (Nat.le_refl _) _
 generalize hw1 : w.alloc (.cells (av l).toArray 149) = w1 at *
 have HB0 := hid hb0
 clear hb0 hw1
 go_loopw [3, 9] (fun b i wr => ∃ k : Nat, k ≤ 15 ∧ i = .int .i64 k ∧ (∃ A c, b = .slice A (off k) c ∧ off k ≤ c ∧ wr.ownsRow w.heap.size 5 1 (.slice A (off k) c) (off k) (bvs (fl l k))) ∧ Below w.heap.size w wr) (fun _ i _ => 15 - (intOf i).toNat)
 case atStart => exact ⟨0, by omega, rfl, ⟨none, 0, rfl, Nat.le_refl _, World.ownsRow_nil _ _ _ _⟩, HB0.out⟩
 case round =>
  obtain ⟨k, hk, rfl, ⟨A, c, rfl, hc, hown⟩, hbe⟩ := hrel
  have HBe := hid hbe
  have hsz := hbe.size
  have HO := hid hown
  have hoff := off_le k hk
  by_cases hlt : k < 15
  ·
   have hkl : k < l.length := by rw [HL.out]; exact hlt
   have hix := fun W => run_index_arr (P := Tryz.prog) W 149 29 15 (av l).toArray .i64 k _ .u64 Tryz.underlying149 Tryz.underlying29 (by kernel_rfl) hlt (by simpa using av_get l k hkl)
   have hcz := (HF.out.below hbe HF.out.1).size hlt
   have hsz1 := sz_lo k hlt
   have hfl := fl_len l k
   have HP : Hid (Calls Tryz.prog 69 #[.slice A (off k) c, .int .u64 ((l[k] : Nat) : Int), .int .i64 (sz k : Int)] wr
     fun e w' => ∃ A c, e = .returned (.tuple #[.slice A (off (k + 1)) c, .int .i64 0]) ∧ w'.ownsRow wr.heap.size 5 1 (.slice A (off (k + 1)) c) (off (k + 1)) (bvs (fl l (k + 1))) ∧ Below wr.heap.size wr w') := hid (by
    obtain ⟨A', c', hv, hc', hlen, hrd⟩ := own_shape hown
    cases hv
    have h := put_fit A (fl l k) c l[k] (sz k) wr.heap.size wr hrd hsz1 (fits_lt HFit.out k hkl) (Nat.le_refl _) (by rw [hfl]; omega)
    rw [hfl] at h
    have e1 : fl l (k + 1) = fl l k ++ le l[k] (sz k) := by simp [fl, hkl]
    rw [e1]
    exact h)
   generalize l[k] = x at hix HP
   generalize hs : sz k = s at hcz HP hsz1
   clear hown hbe hs
   go_wp2_with (go_at_call 69; refine HP.out.mono ?_; rintro e w2 ⟨A2, c2, rfl, hown2, hb2⟩)
   exact ⟨⟨k + 1, by omega, by go_num, ⟨A2, c2, rfl, (own_shape hown2).elim fun _ ⟨_, e, hc2, _⟩ => by cases e; exact hc2, own_base hown2 hsz⟩, HBe.out.trans (hb2.mono hsz)⟩, by simp [intOf]; omega⟩
  ·
   obtain rfl : k = 15 := by omega
   rw [off_15] at hown hc
   have hR := restS_len l
   have hrest : bvs (fl l 15) ++ List.replicate 40 (.int .u8 0) = bvs (restS l) := by rw [bvs_zero, ← bvs_app, restS]
   have HS := hid (fun W => sum_of (restS l) (by omega) W)
   have HP := hid (fun W => put_sum0 (addS 0#32 (restS l)) W)
   have hfin : headB l = le (addS 0#32 (restS l)).toNat 4 ++ restS l := rfl
   generalize restS l = R at *
   generalize addS 0#32 R = x at *
   have HH := hid hrest
   have HR := hid hR
   have HFN := hid hfin
   have hcat : ¬ (9223372036854775807 < (le x.toNat 4).length + R.length) := by rw [le_len, hR]; omega
   have HL4 := hid (le_len 4 x.toNat)
   clear hrest hR hfin HFit HO hbe
   rw [off_15]
   go_wp2_with (first
    | (with_reducible refine wpl_append_zeros rfl _ _ 85 3 rfl w.heap.size 5 i0 .i64 Tryz.underlying85 Tryz.underlying3 hi hz0 hz1 hz2 (.slice A 84 c) 84 _ rfl hown _ 40 rfl ?_ ?_ ?_ ?_ ?_; intro v2 w2 hown2 hb2 hg2; rw [HH.out] at hown2; obtain ⟨A2, c2, rfl, -, -, hrd2⟩ := own_shape hown2)
    | (with_reducible refine wpl_str rfl _ 85 9 rfl 5 Tryz.underlying85 Tryz.underlying5 Tryz.underlying9 A2 124 c2 rfl w2.heap.size R ?_ (hid hrd2) (hid HR.out.symm))
    | (go_at_call 117; refine (HS.out _).mono ?_; rintro e w3 ⟨rfl, hb3⟩)
    | (go_at_call 69; refine (HP.out _).mono ?_; rintro e w4 ⟨A4, c4, rfl, hrd4, hb4⟩)
    | (with_reducible refine wpl_str rfl _ 85 9 rfl 5 Tryz.underlying85 Tryz.underlying5 Tryz.underlying9 A4 4 c4 rfl w4.heap.size (le x.toNat 4) ?_ (hid hrd4) (hid HL4.out.symm))
    | (with_reducible refine wpl_str rfl _ 85 9 rfl 5 Tryz.underlying85 Tryz.underlying5 Tryz.underlying9 A2 124 c2 rfl w2.heap.size R ?_ (hid ((hrd2.below hb3 (Nat.le_refl _)).below hb4 hb3.size)) (hid HR.out.symm)))
   ·
    go_ret
    refine ⟨by rw [HFN.out, cat_mk]; rfl, ?_⟩
    have s2 := hb2.size
    have s3 := hb3.size
    exact ((HBe.out.trans hb2).trans (hb3.mono (by omega))).trans (hb4.mono (by omega))
   ·
    exact hid rfl
   ·
    exact hid (by omega)
   ·
    exact hid (by omega)
   ·
    exact hid hsz
end Go.Proofs.YtgednnjmcjhfmaaGreatDoor
