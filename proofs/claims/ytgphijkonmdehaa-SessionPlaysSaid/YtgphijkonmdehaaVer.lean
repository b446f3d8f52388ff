/-
  The walks of package session's Verdict and Look.
-/
import Derived.Test.YtgphijkonmdehaaOf
namespace Go.Proofs.Ytgphijkonmdehaa
open Go.RowKit
set_option maxRecDepth 10000

theorem ver_nil (c s r : Int) (w : World) : Calls Try.prog 20 #[.pointer none, .int .i64 c, .int .i64 s, .int .i64 r] w (VE w (.int .i64 5)) := by
  have HO := hid (fun W => of_nil c W)
  go_enter Try.func20, Try.ntmps20
  go_wp2_with (go_at_call 26; refine (HO.out _).mono ?_; rintro e w2 ⟨rfl, hb2⟩)
  go_ret
  exact ⟨rfl, hb2⟩
section
variable (p : Nat) (v : Value) (T : List Ss) (c s r : Int) (w : World) (h : HasT w 54 p v T)
include h in
theorem ver_no (hno : ¬ pl T c < T.length) : Calls Try.prog 20 #[.pointer (some ⟨p, 0, none⟩), .int .i64 c, .int .i64 s, .int .i64 r] w (VE w (.int .i64 5)) := by
  have HO := hid (of_no p v T c w h hno)
  clear h hno
  go_enter Try.func20, Try.ntmps20
  go_wp2_with (go_at_call 26; refine HO.out.mono ?_; rintro e w2 ⟨rfl, hb2⟩)
  go_ret
  exact ⟨rfl, hb2⟩
include h in
set_option maxHeartbeats 400000 in
theorem ver_other (k : Nat) (hk : pl T c = k) (hkn : k < T.length) (hs : T[k].s ≠ s) : Calls Try.prog 20 #[.pointer (some ⟨p, 0, none⟩), .int .i64 c, .int .i64 s, .int .i64 r] w (VE w (.int .i64 5)) := by
  obtain ⟨g, cc, -, -, hg⟩ := own_some h.own (by omega : 0 < T.length)
  have HO := hid (of_yes p g k v T c w h hg hk hkn)
  have HC1 := hid (fun W (hW : Below w.heap.size w W) => show W.cell? ⟨g, k * 5 + 1, none⟩ = some (.int .i64 T[k].s) from (h.below hW).cell hg k 1 hkn (by decide))
  have HC2 := hid (fun W (hW : Below w.heap.size w W) => show W.cell? ⟨g, k * 5 + 2, none⟩ = some (.int .i64 T[k].r) from (h.below hW).cell hg k 2 hkn (by decide))
  have hx := (h.wf.ok T[k] (List.getElem_mem hkn)).r
  generalize T[k].s = xs at *
  generalize T[k].r = xr at *
  clear h hk hg
  have e1 : (xs == s) = false := beq_eq_false_iff_ne.2 hs
  have e2 : (xs != s) = true := bne_iff_ne.2 hs
  obtain ⟨hx1, hx2⟩ := hx
  go_enter Try.func20, Try.ntmps20
  go_wp2_with (go_at_call 26; refine HO.out.mono ?_; rintro e w2 ⟨rfl, hb2⟩; have hc1 := HC1.out w2 hb2; have hc2 := HC2.out w2 hb2)
  go_ret
  exact ⟨rfl, hb2⟩
include h in
set_option maxHeartbeats 400000 in
theorem ver_fresh (k : Nat) (hk : pl T c = k) (hkn : k < T.length) (hs : T[k].s = s) (hr : r = T[k].r + 1) : Calls Try.prog 20 #[.pointer (some ⟨p, 0, none⟩), .int .i64 c, .int .i64 s, .int .i64 r] w (VE w (.int .i64 1)) := by
  obtain ⟨g, cc, -, -, hg⟩ := own_some h.own (by omega : 0 < T.length)
  have HO := hid (of_yes p g k v T c w h hg hk hkn)
  have HC1 := hid (fun W (hW : Below w.heap.size w W) => show W.cell? ⟨g, k * 5 + 1, none⟩ = some (.int .i64 T[k].s) from (h.below hW).cell hg k 1 hkn (by decide))
  have HC2 := hid (fun W (hW : Below w.heap.size w W) => show W.cell? ⟨g, k * 5 + 2, none⟩ = some (.int .i64 T[k].r) from (h.below hW).cell hg k 2 hkn (by decide))
  have hx := (h.wf.ok T[k] (List.getElem_mem hkn)).r
  generalize T[k].s = xs at *
  generalize T[k].r = xr at *
  clear h hk hg
  subst hs
  subst hr
  obtain ⟨hx1, hx2⟩ := hx
  go_enter Try.func20, Try.ntmps20
  go_wp2_with (go_at_call 26; refine HO.out.mono ?_; rintro e w2 ⟨rfl, hb2⟩; have hc1 := HC1.out w2 hb2; have hc2 := HC2.out w2 hb2)
  go_ret
  exact ⟨rfl, hb2⟩
include h in
set_option maxHeartbeats 400000 in
theorem ver_again (k : Nat) (hk : pl T c = k) (hkn : k < T.length) (hs : T[k].s = s) (hr : r = T[k].r) : Calls Try.prog 20 #[.pointer (some ⟨p, 0, none⟩), .int .i64 c, .int .i64 s, .int .i64 r] w (VE w (.int .i64 2)) := by
  obtain ⟨g, cc, -, -, hg⟩ := own_some h.own (by omega : 0 < T.length)
  have HO := hid (of_yes p g k v T c w h hg hk hkn)
  have HC1 := hid (fun W (hW : Below w.heap.size w W) => show W.cell? ⟨g, k * 5 + 1, none⟩ = some (.int .i64 T[k].s) from (h.below hW).cell hg k 1 hkn (by decide))
  have HC2 := hid (fun W (hW : Below w.heap.size w W) => show W.cell? ⟨g, k * 5 + 2, none⟩ = some (.int .i64 T[k].r) from (h.below hW).cell hg k 2 hkn (by decide))
  have hx := (h.wf.ok T[k] (List.getElem_mem hkn)).r
  generalize T[k].s = xs at *
  generalize T[k].r = xr at *
  clear h hk hg
  subst hs
  subst hr
  have e3 : (r == r + 1) = false := beq_eq_false_iff_ne.2 (by omega)
  obtain ⟨hx1, hx2⟩ := hx
  go_enter Try.func20, Try.ntmps20
  go_wp2_with (go_at_call 26; refine HO.out.mono ?_; rintro e w2 ⟨rfl, hb2⟩; have hc1 := HC1.out w2 hb2; have hc2 := HC2.out w2 hb2)
  go_ret
  exact ⟨rfl, hb2⟩
include h in
set_option maxHeartbeats 400000 in
theorem ver_old (k : Nat) (hk : pl T c = k) (hkn : k < T.length) (hs : T[k].s = s) (hr : r < T[k].r) : Calls Try.prog 20 #[.pointer (some ⟨p, 0, none⟩), .int .i64 c, .int .i64 s, .int .i64 r] w (VE w (.int .i64 3)) := by
  obtain ⟨g, cc, -, -, hg⟩ := own_some h.own (by omega : 0 < T.length)
  have HO := hid (of_yes p g k v T c w h hg hk hkn)
  have HC1 := hid (fun W (hW : Below w.heap.size w W) => show W.cell? ⟨g, k * 5 + 1, none⟩ = some (.int .i64 T[k].s) from (h.below hW).cell hg k 1 hkn (by decide))
  have HC2 := hid (fun W (hW : Below w.heap.size w W) => show W.cell? ⟨g, k * 5 + 2, none⟩ = some (.int .i64 T[k].r) from (h.below hW).cell hg k 2 hkn (by decide))
  have hx := (h.wf.ok T[k] (List.getElem_mem hkn)).r
  generalize T[k].s = xs at *
  generalize T[k].r = xr at *
  clear h hk hg
  subst hs
  have e3 : (r == xr + 1) = false := beq_eq_false_iff_ne.2 (by omega)
  have e4 : (r == xr) = false := beq_eq_false_iff_ne.2 (by omega)
  obtain ⟨hx1, hx2⟩ := hx
  go_enter Try.func20, Try.ntmps20
  go_wp2_with (go_at_call 26; refine HO.out.mono ?_; rintro e w2 ⟨rfl, hb2⟩; have hc1 := HC1.out w2 hb2; have hc2 := HC2.out w2 hb2)
  go_ret
  exact ⟨rfl, hb2⟩
include h in
set_option maxHeartbeats 400000 in
theorem ver_ahead (k : Nat) (hk : pl T c = k) (hkn : k < T.length) (hs : T[k].s = s) (hr : T[k].r + 1 < r) : Calls Try.prog 20 #[.pointer (some ⟨p, 0, none⟩), .int .i64 c, .int .i64 s, .int .i64 r] w (VE w (.int .i64 4)) := by
  obtain ⟨g, cc, -, -, hg⟩ := own_some h.own (by omega : 0 < T.length)
  have HO := hid (of_yes p g k v T c w h hg hk hkn)
  have HC1 := hid (fun W (hW : Below w.heap.size w W) => show W.cell? ⟨g, k * 5 + 1, none⟩ = some (.int .i64 T[k].s) from (h.below hW).cell hg k 1 hkn (by decide))
  have HC2 := hid (fun W (hW : Below w.heap.size w W) => show W.cell? ⟨g, k * 5 + 2, none⟩ = some (.int .i64 T[k].r) from (h.below hW).cell hg k 2 hkn (by decide))
  have hx := (h.wf.ok T[k] (List.getElem_mem hkn)).r
  generalize T[k].s = xs at *
  generalize T[k].r = xr at *
  clear h hk hg
  subst hs
  have e3 : (r == xr + 1) = false := beq_eq_false_iff_ne.2 (by omega)
  have e4 : (r == xr) = false := beq_eq_false_iff_ne.2 (by omega)
  have e5 : ¬ r < xr := by omega
  obtain ⟨hx1, hx2⟩ := hx
  go_enter Try.func20, Try.ntmps20
  go_wp2_with (go_at_call 26; refine HO.out.mono ?_; rintro e w2 ⟨rfl, hb2⟩; have hc1 := HC1.out w2 hb2; have hc2 := HC2.out w2 hb2)
  go_ret
  exact ⟨rfl, hb2⟩
include h in
theorem ver_has : Calls Try.prog 20 #[.pointer (some ⟨p, 0, none⟩), .int .i64 c, .int .i64 s, .int .i64 r] w (VE w (.int .i64 (ver T c s r))) := by
  unfold ver
  by_cases hk : pl T c < T.length
  · rw [if_neg (fun hh => hh hk), at_get hk]
    by_cases hs : T[pl T c].s = s
    · rw [if_neg (fun hh => hh hs)]
      by_cases h1 : r = T[pl T c].r + 1
      · rw [if_pos h1]; exact ver_fresh p v T c s r w h _ rfl hk hs h1
      rw [if_neg h1]
      by_cases h2 : r = T[pl T c].r
      · rw [if_pos h2]; exact ver_again p v T c s r w h _ rfl hk hs h2
      rw [if_neg h2]
      by_cases h3 : r < T[pl T c].r
      · rw [if_pos h3]; exact ver_old p v T c s r w h _ rfl hk hs h3
      · rw [if_neg h3]; exact ver_ahead p v T c s r w h _ rfl hk hs (by omega)
    · rw [if_pos hs]; exact ver_other p v T c s r w h _ rfl hk hs
  · rw [if_pos hk]; exact ver_no p v T c s r w h hk
end
theorem ver_any (p : Nat) (fp : List Nat) (T : List Ss) (c s r : Int) (w : World) (h : Gk 54 p T fp w) : Calls Try.prog 20 #[.pointer (some ⟨p, 0, none⟩), .int .i64 c, .int .i64 s, .int .i64 r] w (VE w (.int .i64 (ver T c s r))) := by
  obtain ⟨v, -, h⟩ := h
  exact ver_has p v T c s r w h

/-! ### Look -/
/-- a session and a yes or no -/
def LK (w : World) (x : Ss) (b : Bool) (e : Ending) (w' : World) : Prop := e = .returned (.tuple #[.agg x.cells.toArray, .bool b]) ∧ Below w.heap.size w w'
def look (T : List Ss) (c : Int) : Ss := if pl T c < T.length then at_ T (pl T c) else ss0
def looks (T : List Ss) (c : Int) : Bool := decide (pl T c < T.length)
set_option maxHeartbeats 400000 in
theorem look_nil (c : Int) (w : World)  : Calls Try.prog 12 #[.pointer none, .int .i64 c] w (LK w ss0 false) := by
  have HZ := hid ssSize
  have HR0 := hid (show Row (w.alloc (.cells #[.int .i64 0, .int .i64 0, .int .i64 0, .int .i64 0, .string ⟨#[]⟩] 37)) w.heap.size 37 ss0.cells from Row.new _ _ _)
  have HO := hid (fun W => of_nil c W)
  go_enter Try.func12, Try.ntmps12
  go_wp2_with (first
    | (go_at_call 26; refine (HO.out _).mono ?_; rintro e w2 ⟨rfl, hb2⟩; have HB2 := hid hb2; have HR2 := hid (HR0.out.below hb2 (by simp)); clear hb2)
    | (refine wpl_store_st rfl (.tmp 4) (.tmp 12) rfl HZ.out w.heap.size ss0.cells ss0.cells rfl rfl HR2.out ?_ (hid rfl) (hid rfl) (hid rfl); intro w3 hr3 hg3))
  refine bodyPost_ret (results_cell1 rfl _ _ w.heap.size 37 ss0.cells.toArray (0, 0) _ (.bool false) rfl rfl hr3.arr' Try.underlying37 rfl HZ.out) rfl ⟨rfl, ?_⟩
  exact (((Below.refl _ _).alloc (Nat.le_refl _) _).trans (HB2.out.mono (by simp))).trans (below_grown hg3 (Nat.le_refl _) (by have := HB2.out.size; simp at this; omega))
set_option maxHeartbeats 400000 in
theorem look_no (c : Int) (w : World) (p : Nat) (v : Value) (T : List Ss) (h : HasT w 54 p v T) (hno : ¬ pl T c < T.length) : Calls Try.prog 12 #[.pointer (some ⟨p, 0, none⟩), .int .i64 c] w (LK w ss0 false) := by
  have HZ := hid ssSize
  have HR0 := hid (show Row (w.alloc (.cells #[.int .i64 0, .int .i64 0, .int .i64 0, .int .i64 0, .string ⟨#[]⟩] 37)) w.heap.size 37 ss0.cells from Row.new _ _ _)
  have HO := hid (fun W (hW : Below w.heap.size w W) => of_no p v T c W (h.below hW) hno)
  clear h hno
  go_enter Try.func12, Try.ntmps12
  go_wp2_with (first
    | (go_at_call 26; refine (HO.out _ ((Below.refl _ _).alloc (Nat.le_refl _) _)).mono ?_; rintro e w2 ⟨rfl, hb2⟩; have HB2 := hid hb2; have HR2 := hid (HR0.out.below hb2 (by simp)); clear hb2)
    | (refine wpl_store_st rfl (.tmp 4) (.tmp 12) rfl HZ.out w.heap.size ss0.cells ss0.cells rfl rfl HR2.out ?_ (hid rfl) (hid rfl) (hid rfl); intro w3 hr3 hg3))
  refine bodyPost_ret (results_cell1 rfl _ _ w.heap.size 37 ss0.cells.toArray (0, 0) _ (.bool false) rfl rfl hr3.arr' Try.underlying37 rfl HZ.out) rfl ⟨rfl, ?_⟩
  exact (((Below.refl _ _).alloc (Nat.le_refl _) _).trans (HB2.out.mono (by simp))).trans (below_grown hg3 (Nat.le_refl _) (by have := HB2.out.size; simp at this; omega))
set_option maxHeartbeats 400000 in
theorem look_yes (c : Int) (w : World) (p : Nat) (v : Value) (T : List Ss) (h : HasT w 54 p v T) (k : Nat) (hk : pl T c = k) (hkn : k < T.length) : Calls Try.prog 12 #[.pointer (some ⟨p, 0, none⟩), .int .i64 c] w (LK w T[k] true) := by
  have HZ := hid ssSize
  obtain ⟨g, cc, -, -, hg⟩ := own_some h.own (by omega : 0 < T.length)
  have HR0 := hid (show Row (w.alloc (.cells #[.int .i64 0, .int .i64 0, .int .i64 0, .int .i64 0, .string ⟨#[]⟩] 37)) w.heap.size 37 ss0.cells from Row.new _ _ _)
  have HO := hid (fun W (hW : Below w.heap.size w W) => of_yes p g k v T c W (h.below hW) hg hk hkn)
  have HRG := hid (fun W (hW : Below w.heap.size w W) => (h.below hW).range hg k hkn)
  have HAP := hid (fun W => apart_any T[k] (h.wf.ok T[k] (List.getElem_mem hkn)).t W)
  unfold LK
  have HC5 : Hid ((Ss.cells T[k]).length = 5) := hid (Ss.len _)
  have HC1 : Hid ((Ss.cells T[k]).all (·.oneCell') = true) := hid (Ss.one _)
  generalize Ss.cells T[k] = X at *
  clear h hk hg
  go_enter Try.func12, Try.ntmps12
  go_wp2_with (first
    | (go_at_call 26; refine (HO.out _ ((Below.refl _ _).alloc (Nat.le_refl _) _)).mono ?_; rintro e w2 ⟨rfl, hb2⟩; have HB2 := hid hb2; have HR2 := hid (HR0.out.below hb2 (by simp)); have HRG2 := hid (HRG.out _ (((Below.refl _ _).alloc (Nat.le_refl _) _).trans (hb2.mono (by simp)))); clear hb2)
    | (refine wpList_load_mid rfl 37 (.tmp 14) rfl g (k * 5) rfl X _ HRG2.out Try.underlying37 rfl (by rw [HC5.out]; exact HZ.out) ?_)
    | (go_at_call 27; refine (HAP.out _).mono ?_; rintro e w3 ⟨rfl, hb3⟩; have HB3 := hid hb3; have HR3 := hid (HR2.out.below hb3 HR2.out.lt); clear hb3)
    | (refine wpl_store_st rfl (.tmp 4) (.tmp 16) rfl HZ.out w.heap.size ss0.cells X rfl rfl HR3.out ?_ (hid rfl) (hid HC5.out) (hid HC1.out); intro w4 hr4 hg4))
  refine bodyPost_ret (results_cell1 rfl _ _ w.heap.size 37 X.toArray (0, 0) _ (.bool true) rfl rfl hr4.arr' Try.underlying37 rfl (by rw [List.size_toArray, HC5.out]; exact HZ.out)) rfl ⟨rfl, ?_⟩
  have hb1 := ((Below.refl w.heap.size w).alloc (Nat.le_refl _) (.cells #[.int .i64 0, .int .i64 0, .int .i64 0, .int .i64 0, .string ⟨#[]⟩] 37)).trans (HB2.out.mono (by simp))
  have hb2 := hb1.trans (HB3.out.mono hb1.size)
  exact hb2.trans (below_grown hg4 (Nat.le_refl _) hb2.size)
theorem look_any (p : Nat) (fp : List Nat) (T : List Ss) (c : Int) (w : World) (h : Gk 54 p T fp w) : Calls Try.prog 12 #[.pointer (some ⟨p, 0, none⟩), .int .i64 c] w (LK w (look T c) (looks T c)) := by
  obtain ⟨v, -, h⟩ := h
  unfold look looks
  by_cases hk : pl T c < T.length
  · rw [if_pos hk, decide_eq_true hk, at_get hk]
    exact look_yes c w p v T h _ rfl hk
  · rw [if_neg hk, decide_eq_false hk]
    exact look_no c w p v T h hk
end Go.Proofs.Ytgphijkonmdehaa
