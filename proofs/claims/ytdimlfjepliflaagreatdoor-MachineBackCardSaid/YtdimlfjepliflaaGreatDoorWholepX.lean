/-
  The walks of PutWhole and Whole, of package event.
-/
import Derived.Test.YtdimlfjepliflaaGreatDoorD08
import Derived.Deep.RegionHeld
import Derived.Test.YtdimlfjepliflaaGreatDoorEvX
namespace Go.Proofs.YtdimlfjepliflaaGreatDoor
open Go.RowKit
set_option maxRecDepth 10000

set_option maxHeartbeats 400000 in
theorem wh_no (s : ByteArray) (w : World) (h : ((s.size : Int) != 25) = true) : Calls Tryz.prog 100 #[.string s] w (AB w (ac0.cells, false)) := by
  have HZ := hid acSize
  go_enter Tryz.func100, Tryz.ntmps100
  go_wp2_with (refine wpl_store_st rfl (.tmp 2) (.tmp 9) rfl HZ.out w.heap.size ac0.cells ac0.cells rfl rfl (Row.new w _ _) ?_ (hid rfl) (hid rfl) (hid rfl); intro w3 hr3 hg3)
  refine bodyPost_ret (results_cell1 rfl _ _ w.heap.size 88 ac0.cells.toArray (0, 0) _ (.bool false) rfl rfl hr3.arr' Tryz.underlying88 rfl HZ.out) rfl ⟨rfl, ?_⟩
  exact ((Below.refl _ _).alloc (Nat.le_refl _) _).trans (below_grown hg3 (Nat.le_refl _) (by simp))
theorem sb_get8 (s : ByteArray) (a b : Nat) (h : a + 8 < b) : (sb (s.extract a b)).getD 8 0 = (sb s).getD (a + 8) 0 := by
  rw [sb_extract, List.getD, List.getD, List.getElem?_take_of_lt (by omega), List.getElem?_drop]
set_option maxHeartbeats 1000000 in
theorem wh_yes (s : ByteArray) (w : World) (h : s.size = 25) : Calls Tryz.prog 100 #[.string s] w (AB w ((decW (sb s)).cells, true)) := by
  have HZ := hid acSize
  have hI : ((s.size : Int) != 25) = false := by rw [h]; rfl
  have hI2 : (9 : Int) ≤ (s.size : Int) := by omega
  have h9 : (s.extract 0 9).size = 9 := by rw [ByteArray.size_extract]; omega
  have h16 : (s.extract 9 s.size).size = 8 * 2 := by rw [ByteArray.size_extract]; omega
  have HT := hid (taka_yes (s.extract 0 9))
  have hdec : (decA (sb (s.extract 0 9))).cells = [.int .u64 (at8 (sb s) 0 : Int), .int .i64 (((sb s).getD 8 0).toNat : Int), .int .u64 0, .int .u64 0] := by
    have e1 := at8_extract s 0 9 0 (by omega)
    have e2 := sb_get8 s 0 9 (by omega)
    unfold decA Ac.cells
    rw [e1, e2]
    rfl
  have e3 := at8_extract s 9 s.size 0 (by omega)
  have e4 := at8_extract s 9 s.size 8 (by omega)
  have htook : took [.int .u64 (at8 (sb s) 0 : Int), .int .i64 (((sb s).getD 8 0).toNat : Int), .int .u64 0, .int .u64 0] (sb (s.extract 9 s.size)) [2, 3] 2 = (decW (sb s)).cells := by
    show [Value.int .u64 (at8 (sb s) 0 : Int), .int .i64 (((sb s).getD 8 0).toNat : Int), .int .u64 (at8 (sb (s.extract 9 s.size)) 0 : Int), .int .u64 (at8 (sb (s.extract 9 s.size)) 8 : Int)] = _
    rw [e3, e4]
    rfl
  rw [hdec] at HT
  have HC1 : Hid ((decW (sb s)).cells.all (·.oneCell') = true) := hid rfl
  have HC4 : Hid ((decW (sb s)).cells.length = 4) := hid rfl
  generalize (decW (sb s)).cells = CW at *
  generalize at8 (sb s) 0 = x0 at *
  generalize ((sb s).getD 8 0).toNat = b at *
  have HTK := hid htook
  have H9 := hid h9
  have H16 := hid h16
  clear hdec e3 e4 htook h9 h16 h
  have HW : Hid (∀ w1 : World, Row ((w1.alloc (.cells #[.int .u64 (x0 : Int), .int .i64 (b : Int), .int .u64 0, .int .u64 0] 88)).alloc (.cells #[.pointer (some ⟨w1.heap.size, 2, none⟩), .pointer (some ⟨w1.heap.size, 3, none⟩)] 184)) w1.heap.size 88 [.int .u64 (x0 : Int), .int .i64 (b : Int), .int .u64 0, .int .u64 0]) := hid fun w1 => Row.alloc (Row.new _ _ _) _
  have HPT : Hid (∀ w1 : World, Rd ((w1.alloc (.cells #[.int .u64 (x0 : Int), .int .i64 (b : Int), .int .u64 0, .int .u64 0] 88)).alloc (.cells #[.pointer (some ⟨w1.heap.size, 2, none⟩), .pointer (some ⟨w1.heap.size, 3, none⟩)] 184)) (w1.heap.size + 2) (some ⟨w1.heap.size + 1, 0, none⟩) (ptrs w1.heap.size [2, 3])) := hid fun w1 => Row.rd (e := 184) (alloc2_new _ _ _) (by omega)
  have HT2 : Hid (∀ W : World, Calls Tryz.prog 138 #[.string (s.extract 0 9)] W (AB W ([.int .u64 (x0 : Int), .int .i64 (b : Int), .int .u64 0, .int .u64 0], true))) := hid fun W => HT.out W H9.out
  clear HT
  go_enter Tryz.func100, Tryz.ntmps100
  go_wp2_with (first
    | (go_at_call 138; refine (HT2.out _).mono ?_; rintro e1 w1 ⟨rfl, hb1⟩; clear HT2; have hz1 : Row w1 w.heap.size 88 ac0.cells := (Row.new w 88 ac0.cells.toArray).below hb1 (by simp); have hbw1 : Below w.heap.size w w1 := ((Below.refl _ _).alloc (Nat.le_refl _) _).trans (hb1.mono (by simp)); have hlt1 := hz1.lt; have hne1 : ¬ (w.heap.size = w1.heap.size) := by omega)
    | (go_at_call 139; refine (take_yes (s.extract 9 s.size) w1.heap.size (w1.heap.size + 1) 0 2 2 (w1.heap.size + 2) 88 [.int .u64 (x0 : Int), .int .i64 (b : Int), .int .u64 0, .int .u64 0] [2, 3] _ (by omega) (by omega) rfl H16.out (HW.out w1) (HPT.out w1) (by omega) (by omega) (by intro o ho; simp at ho; rcases ho with rfl | rfl <;> simp)).mono ?_; rintro e w2 ⟨rfl, hr2, hg2⟩; rw [HTK.out] at hr2; have hz2 := (Row.alloc (Row.alloc hz1 _) _).grown hg2 (by simp; omega))
    | (refine wpList_load_row rfl 88 (.tmp 4) rfl w1.heap.size rfl 88 _ (0, 0) _ hr2.arr' Tryz.underlying88 rfl (by rw [List.size_toArray, HC4.out]; exact HZ.out) ?_)
    | (refine wpl_store_st rfl (.tmp 2) (.tmp 22) rfl HZ.out w.heap.size ac0.cells _ rfl rfl hz2 ?_ (hid rfl) (hid HC4.out) (hid HC1.out); intro w3 hr3 hg3))
  refine bodyPost_ret (results_cell1 rfl _ _ w.heap.size 88 _ (0, 0) _ (.bool true) rfl rfl hr3.arr' Tryz.underlying88 rfl (by rw [List.size_toArray, HC4.out]; exact HZ.out)) rfl ⟨rfl, ?_⟩
  have hs2 := hg2.size
  simp at hs2
  exact (((hbw1.alloc hbw1.size _).alloc (by simp; omega) _).trans (below_grown hg2 (by omega) (by simp; omega))).trans (below_grown hg3 (Nat.le_refl _) (by omega))
end Go.Proofs.YtdimlfjepliflaaGreatDoor
