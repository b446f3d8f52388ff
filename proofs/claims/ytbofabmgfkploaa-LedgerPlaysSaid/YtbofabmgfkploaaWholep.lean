/-
  The walks of PutWhole and Whole, of package event.
-/
import Derived.Test.YtbofabmgfkploaaRef3
import Derived.Deep.RegionHeld
namespace Go.Proofs.Ytbofabmgfkploaa
open Go.RowKit
set_option maxRecDepth 10000

set_option maxHeartbeats 1000000 in
theorem pw_any (x : Ac) (hx : x.ok) (w : World) : Calls Try.prog 85 #[.agg x.cells.toArray] w (SN w (wholeB x)) := by
  have HA := hid (ask_any x hx)
  obtain ⟨id, fl, deb, cre⟩ := x
  have hl : leAll [deb, cre] = le deb 8 ++ le cre 8 := by simp [leAll]
  have HLY := hid (fun W B A (hr : Rd W B A (rows Ic [deb, cre])) hB => lay_nums A [deb, cre] 2 2 B W hr rfl (by omega) (by omega) (by omega) (by
    intro y hy
    simp at hy
    rcases hy with rfl | rfl
    · exact hx.2.2.1
    · exact hx.2.2.2) hB)
  have hres : wholeB ⟨id, fl, deb, cre⟩ = if (askS ⟨id, fl, deb, cre⟩).2 = 0 then ((askS ⟨id, fl, deb, cre⟩).1 ++ leAll [deb, cre], 0) else ([], 1) := by
    rw [hl]
    unfold wholeB askS
    by_cases h : 0 ≤ fl ∧ fl ≤ 255
    · simp only [if_pos h]
      simp only [List.append_assoc, if_true]
    · simp only [if_neg h]
      rfl
  have hask1 : (askS ⟨id, fl, deb, cre⟩).2 = 0 ∨ (askS ⟨id, fl, deb, cre⟩).2 = 1 := by
    unfold askS
    split
    · exact .inl rfl
    · exact .inr rfl
  have hask2 : (askS ⟨id, fl, deb, cre⟩).1.length ≤ 9 := by
    unfold askS
    split
    · simp [le_len]
    · simp
  rw [hres]
  have hln := leAll_len [deb, cre]
  generalize askS ⟨id, fl, deb, cre⟩ = r at *
  obtain ⟨bs, e⟩ := r
  generalize leAll [deb, cre] = E at *
  have HA2 : Hid (∀ W : World, Calls Try.prog 62 #[.agg #[.int .u64 (id : Int), .int .i64 fl, .int .u64 (deb : Int), .int .u64 (cre : Int)]] W (SN W (bs, e))) := hid HA.out
  have HZ := hid acSize
  have HNW : Hid (∀ W : World, Rd (W.alloc (.cells #[.int .u64 (deb : Int), .int .u64 (cre : Int)] 41)) (W.heap.size + 1) (some ⟨W.heap.size, 0, none⟩) (rows Ic [deb, cre])) := hid fun W => Row.rd (cs := rows Ic [deb, cre]) (Row.new W 41 #[.int .u64 (deb : Int), .int .u64 (cre : Int)]) (Nat.lt_succ_self _)
  have hq : ¬ (9223372036854775807 < bs.length + E.length) := by
    simp only at hask2
    rw [hln]
    simp
    omega
  clear HA hres hl hx hask2 hln
  rcases hask1 with h | h
  · obtain rfl : e = 0 := h
    show Calls Try.prog 85 #[.agg #[.int .u64 (id : Int), .int .i64 fl, .int .u64 (deb : Int), .int .u64 (cre : Int)]] w (SN w (bs ++ E, 0))
    have HRW := hid (show Row (w.alloc (.cells #[.int .u64 (id : Int), .int .i64 fl, .int .u64 (deb : Int), .int .u64 (cre : Int)] 45)) w.heap.size 45 [.int .u64 (id : Int), .int .i64 fl, .int .u64 (deb : Int), .int .u64 (cre : Int)] from Row.new _ _ _)
    go_enter Try.func85, Try.ntmps85
    go_wp2_with (first
      | (go_at_call 62; refine (HA2.out _).mono ?_; rintro e1 w1 ⟨rfl, hb1⟩; have hr1 := HRW.out.below hb1 (by simp); have hc2 := hr1.cell 2; have hc3 := hr1.cell 3; simp only [List.getElem?_cons_succ, List.getElem?_cons_zero] at hc2 hc3)
      | (go_at_call 54; refine (HLY.out _ _ _ (HNW.out _) (by simp)).mono ?_; rintro e2 w2 ⟨rfl, hb2⟩))
    go_ret2
    exact ⟨by rw [← cat_mk]; rfl, (((Below.refl _ _).alloc (Nat.le_refl _) _).trans (hb1.mono (by simp))).trans (((Below.refl _ _).alloc (Nat.le_refl _) _ |>.mono (by have := hb1.size; simp at this; omega)).trans (hb2.mono (by have := hb1.size; simp at this ⊢; omega)))⟩
  · obtain rfl : e = 1 := h
    show Calls Try.prog 85 #[.agg #[.int .u64 (id : Int), .int .i64 fl, .int .u64 (deb : Int), .int .u64 (cre : Int)]] w (SN w ([], 1))
    go_enter Try.func85, Try.ntmps85
    go_wp2_with (go_at_call 62; refine (HA2.out _).mono ?_; rintro e1 w1 ⟨rfl, hb1⟩)
    go_ret2
    exact ⟨rfl, ((Below.refl _ _).alloc (Nat.le_refl _) _).trans (hb1.mono (by simp))⟩

set_option maxHeartbeats 400000 in
theorem wh_no (s : ByteArray) (w : World) (h : ((s.size : Int) != 25) = true) : Calls Try.prog 57 #[.string s] w (AB w (ac0.cells, false)) := by
  have HZ := hid acSize
  go_enter Try.func57, Try.ntmps57
  go_wp2_with (refine wpl_store_st rfl (.tmp 2) (.tmp 9) rfl HZ.out w.heap.size ac0.cells ac0.cells rfl rfl (Row.new w _ _) ?_ (hid rfl) (hid rfl) (hid rfl); intro w3 hr3 hg3)
  refine bodyPost_ret (results_cell1 rfl _ _ w.heap.size 45 ac0.cells.toArray (0, 0) _ (.bool false) rfl rfl hr3.arr' Try.underlying45 rfl HZ.out) rfl ⟨rfl, ?_⟩
  exact ((Below.refl _ _).alloc (Nat.le_refl _) _).trans (below_grown hg3 (Nat.le_refl _) (by simp))

theorem sb_get8 (s : ByteArray) (a b : Nat) (h : a + 8 < b) : (sb (s.extract a b)).getD 8 0 = (sb s).getD (a + 8) 0 := by
  rw [sb_extract, List.getD, List.getD, List.getElem?_take_of_lt (by omega), List.getElem?_drop]

set_option maxHeartbeats 1000000 in
theorem wh_yes (s : ByteArray) (w : World) (h : s.size = 25) : Calls Try.prog 57 #[.string s] w (AB w ((decW (sb s)).cells, true)) := by
  have HZ := hid acSize
  have hI : ((s.size : Int) != 25) = false := by rw [h]; rfl
  have hI2 : (9 : Int) ≤ (s.size : Int) := by omega
  have h9 : (s.extract 0 9).size = 9 := by rw [ByteArray.size_extract]; omega
  have h16 : (s.extract 9 s.size).size = 8 * 2 := by rw [ByteArray.size_extract]; omega
  have HT := hid (taka_yes (s.extract 0 9))
  have hdec : (decA (sb (s.extract 0 9))).cells = [.int .u64 (at8 (sb s) 0 : Int), .int .i64 (((sb s).getD 8 0).toNat : Int), .int .u64 0, .int .u64 0] := by
    have e1 := at8_extract s 0 9 0 (by omega)
    have e2 := sb_get8 s 0 9 (by omega)
    unfold decA Ac.cells
    rw [e1, e2]
    rfl
  have e3 := at8_extract s 9 s.size 0 (by omega)
  have e4 := at8_extract s 9 s.size 8 (by omega)
  have htook : took [.int .u64 (at8 (sb s) 0 : Int), .int .i64 (((sb s).getD 8 0).toNat : Int), .int .u64 0, .int .u64 0] (sb (s.extract 9 s.size)) [2, 3] 2 = (decW (sb s)).cells := by
    show [Value.int .u64 (at8 (sb s) 0 : Int), .int .i64 (((sb s).getD 8 0).toNat : Int), .int .u64 (at8 (sb (s.extract 9 s.size)) 0 : Int), .int .u64 (at8 (sb (s.extract 9 s.size)) 8 : Int)] = _
    rw [e3, e4]
    rfl
  rw [hdec] at HT
  have HC1 : Hid ((decW (sb s)).cells.all (·.oneCell') = true) := hid rfl
  have HC4 : Hid ((decW (sb s)).cells.length = 4) := hid rfl
  generalize (decW (sb s)).cells = CW at *
  generalize at8 (sb s) 0 = x0 at *
  generalize ((sb s).getD 8 0).toNat = b at *
  have HTK := hid htook
  have H9 := hid h9
  have H16 := hid h16
  clear hdec e3 e4 htook h9 h16 h
  have HW : Hid (∀ w1 : World, Row ((w1.alloc (.cells #[.int .u64 (x0 : Int), .int .i64 (b : Int), .int .u64 0, .int .u64 0] 45)).alloc (.cells #[.pointer (some ⟨w1.heap.size, 2, none⟩), .pointer (some ⟨w1.heap.size, 3, none⟩)] 106)) w1.heap.size 45 [.int .u64 (x0 : Int), .int .i64 (b : Int), .int .u64 0, .int .u64 0]) := hid fun w1 => Row.alloc (Row.new _ _ _) _
  have HPT : Hid (∀ w1 : World, Rd ((w1.alloc (.cells #[.int .u64 (x0 : Int), .int .i64 (b : Int), .int .u64 0, .int .u64 0] 45)).alloc (.cells #[.pointer (some ⟨w1.heap.size, 2, none⟩), .pointer (some ⟨w1.heap.size, 3, none⟩)] 106)) (w1.heap.size + 2) (some ⟨w1.heap.size + 1, 0, none⟩) (ptrs w1.heap.size [2, 3])) := hid fun w1 => Row.rd (e := 106) (alloc2_new _ _ _) (by omega)
  have HT2 : Hid (∀ W : World, Calls Try.prog 67 #[.string (s.extract 0 9)] W (AB W ([.int .u64 (x0 : Int), .int .i64 (b : Int), .int .u64 0, .int .u64 0], true))) := hid fun W => HT.out W H9.out
  clear HT
  go_enter Try.func57, Try.ntmps57
  go_wp2_with (first
    | (go_at_call 67; refine (HT2.out _).mono ?_; rintro e1 w1 ⟨rfl, hb1⟩; clear HT2; have hz1 : Row w1 w.heap.size 45 ac0.cells := (Row.new w 45 ac0.cells.toArray).below hb1 (by simp); have hbw1 : Below w.heap.size w w1 := ((Below.refl _ _).alloc (Nat.le_refl _) _).trans (hb1.mono (by simp)); have hlt1 := hz1.lt; have hne1 : ¬ (w.heap.size = w1.heap.size) := by omega)
    | (go_at_call 72; refine (take_yes (s.extract 9 s.size) w1.heap.size (w1.heap.size + 1) 0 2 2 (w1.heap.size + 2) 45 [.int .u64 (x0 : Int), .int .i64 (b : Int), .int .u64 0, .int .u64 0] [2, 3] _ (by omega) (by omega) rfl H16.out (HW.out w1) (HPT.out w1) (by omega) (by omega) (by intro o ho; simp at ho; rcases ho with rfl | rfl <;> simp)).mono ?_; rintro e w2 ⟨rfl, hr2, hg2⟩; rw [HTK.out] at hr2; have hz2 := (Row.alloc (Row.alloc hz1 _) _).grown hg2 (by simp; omega))
    | (refine wpList_load_row rfl 45 (.tmp 4) rfl w1.heap.size rfl 45 _ (0, 0) _ hr2.arr' Try.underlying45 rfl (by rw [List.size_toArray, HC4.out]; exact HZ.out) ?_)
    | (refine wpl_store_st rfl (.tmp 2) (.tmp 22) rfl HZ.out w.heap.size ac0.cells _ rfl rfl hz2 ?_ (hid rfl) (hid HC4.out) (hid HC1.out); intro w3 hr3 hg3))
  refine bodyPost_ret (results_cell1 rfl _ _ w.heap.size 45 _ (0, 0) _ (.bool true) rfl rfl hr3.arr' Try.underlying45 rfl (by rw [List.size_toArray, HC4.out]; exact HZ.out)) rfl ⟨rfl, ?_⟩
  have hs2 := hg2.size
  simp at hs2
  exact (((hbw1.alloc hbw1.size _).alloc (by simp; omega) _).trans (below_grown hg2 (by omega) (by simp; omega))).trans (below_grown hg3 (Nat.le_refl _) (by omega))
theorem wh_any (s : ByteArray) (w : World) : Calls Try.prog 57 #[.string s] w (AB w ((wholeS (sb s)).1.cells, (wholeS (sb s)).2)) := by
  unfold wholeS
  rw [sb_len]
  by_cases h : s.size = 25
  · rw [if_pos h]; exact wh_yes s w h
  · rw [if_neg h]; exact wh_no s w (bne_iff_ne.2 (by omega))
end Go.Proofs.Ytbofabmgfkploaa
