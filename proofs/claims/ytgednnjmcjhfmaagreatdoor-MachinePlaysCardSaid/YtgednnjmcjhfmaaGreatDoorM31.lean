/-
  A machine played, in plain words; a question asked behind it.
-/
import Derived.Test.YtgednnjmcjhfmaaGreatDoorM24
import Derived.Test.YtgednnjmcjhfmaaGreatDoorM17
import Derived.Test.YtgednnjmcjhfmaaGreatDoorM20
namespace Go.Proofs.YtgednnjmcjhfmaaGreatDoor
open Go.RowKit
set_option maxRecDepth 10000
set_option maxHeartbeats 80000000
theorem put_good (l : List En) (hl : ∀ e ∈ l, e.good) : (∀ e ∈ put l, e.good) ∧ (put l).length ≤ 60 := by
 by_cases h : 60 ≤ l.length
 ·
  obtain ⟨_, h2, h3, _⟩ := pst_good l hl 60 h (Nat.le_refl _)
  exact ⟨h2, by unfold put; omega⟩
 ·
  have e : pst l 60 = pst l l.length := pst_end l 60 (by omega)
  obtain ⟨_, h2, h3, _⟩ := pst_good l hl l.length (Nat.le_refl _) (by omega)
  unfold put
  rw [e]
  exact ⟨h2, by omega⟩
theorem rtold_any (x : Ss) (w : World) : Calls Tryz.prog 36 #[.agg x.cells.toArray] w (VE w (told x).val) := by
 obtain ⟨c, s, r, o, t⟩ := x
 have HZ := hid asize
 show Calls Tryz.prog 36 #[.agg #[.int .i64 c, .int .i64 s, .int .i64 r, .int .i64 o, .string t]] w (VE w (.agg #[.int .i64 1, .int .i64 c, .int .i64 s, .int .i64 r, .int .i64 o, .string t]))
 go_enter Tryz.func36, Tryz.ntmps36
 go_wp2_with fail
 have hr5 : Row ((w.alloc (.cells #[.int .i64 c, .int .i64 s, .int .i64 r, .int .i64 o, .string t] 75)).alloc (.cells #[.int .i64 1, .int .i64 c, .int .i64 s, .int .i64 r, .int .i64 o, .string t] 33)) (w.heap.size + 1) 33 [.int .i64 1, .int .i64 c, .int .i64 s, .int .i64 r, .int .i64 o, .string t] := alloc2_new _ _ _
 refine bodyPost_ret (v := .agg #[.int .i64 1, .int .i64 c, .int .i64 s, .int .i64 r, .int .i64 o, .string t])
  (results_cell_row rfl _ _ (w.heap.size + 1) 33 _ (0, 0) _ rfl hr5.arr' Tryz.underlying33 rfl HZ.out) rfl ⟨rfl, ((Below.refl _ _).alloc (Nat.le_refl _) _).alloc (by simp) _⟩
theorem rnewm_any (w : World) : Calls Tryz.prog 7 #[] w (NH KR w ma0 (fun p => .pointer (some ⟨p, 0, none⟩))) := by
 go_enter Tryz.func7, Tryz.ntmps7
 go_wp2_with fail
 go_ret
 have hb1 := (Below.refl w.heap.size w).alloc (Nat.le_refl _) (.cells #[.slice none 0 0] 51)
 have hr1 : Row (w.alloc (.cells #[.slice none 0 0] 51)) w.heap.size 51 [.slice none 0 0] := Row.new w _ #[.slice none 0 0]
 have hr2 : Row ((w.alloc (.cells #[.slice none 0 0] 51)).alloc (.cells #[.slice none 0 0, .slice none 0 0] 57)) (w.heap.size + 1) 57 [.slice none 0 0, .slice none 0 0] := alloc2_new _ _ _
 have hb2 := hb1.alloc (by simp) (.cells #[.slice none 0 0, .slice none 0 0] 57)
 have hb3 := hb2.alloc (by simp; omega) (.cells #[.int .i64 0, .int .i64 0, .int .u64 0, .pointer (some ⟨w.heap.size, 0, none⟩), .pointer (some ⟨w.heap.size + 1, 0, none⟩)] 45)
 have hr3 : Row (((w.alloc (.cells #[.slice none 0 0] 51)).alloc (.cells #[.slice none 0 0, .slice none 0 0] 57)).alloc (.cells #[.int .i64 0, .int .i64 0, .int .u64 0, .pointer (some ⟨w.heap.size, 0, none⟩), .pointer (some ⟨w.heap.size + 1, 0, none⟩)] 45)) (w.heap.size + 2) 45 [.int .i64 0, .int .i64 0, .int .u64 0, .pointer (some ⟨w.heap.size, 0, none⟩), .pointer (some ⟨w.heap.size + 1, 0, none⟩)] := by
  have h := Row.new ((w.alloc (.cells #[.slice none 0 0] 51)).alloc (.cells #[.slice none 0 0, .slice none 0 0] 57)) 45 #[.int .i64 0, .int .i64 0, .int .u64 0, .pointer (some ⟨w.heap.size, 0, none⟩), .pointer (some ⟨w.heap.size + 1, 0, none⟩)]
  have e : ((w.alloc (.cells #[.slice none 0 0] 51)).alloc (.cells #[.slice none 0 0, .slice none 0 0] 57)).heap.size = w.heap.size + 2 := by simp
  rw [e] at h
  exact h
 refine ⟨w.heap.size + 2, (w.heap.size + 2) :: ([w.heap.size] ++ [w.heap.size + 1]), rfl, ⟨w.heap.size, w.heap.size + 1, [w.heap.size], [w.heap.size + 1], rfl, hr3, ⟨_, rfl, nil_has8 (Row.alloc (Row.alloc hr1 _) _) (by decide)⟩, ⟨_, _, rfl, nil_has (Row.alloc hr2 _) (by decide)⟩, by simp, by simp, by simp⟩, by simp, hb3⟩
theorem rcac_no (p ps : Nat) (n : Int) (c s r : Int) (C : List Value) (w : World) (hn : (n != 2) = true) (hrow : Row w p 45 C) (hC : C[3]? = some (.pointer (some ⟨ps, 0, none⟩)))
  (HV : Hid (∀ W, Below w.heap.size w W → Calls Tryz.prog 13 #[.pointer (some ⟨ps, 0, none⟩), .int .i64 c, .int .i64 s, .int .i64 r] W (VE W (.int .i64 n)))) :
  Calls Tryz.prog 11 #[.pointer (some ⟨p, 0, none⟩), .int .i64 c, .int .i64 s, .int .i64 r] w (ANB w an0 false) := by
 have HB0 : Hid (Below w.heap.size w (w.alloc (.cells an0.cells 33))) := hid ((Below.refl _ _).alloc (Nat.le_refl _) _)
 have HR0 := hid (show Row (w.alloc (.cells an0.cells 33)) w.heap.size 33 an0.cells.toList from Row.new _ _ _)
 have hc3 : (w.alloc (.cells #[.int .i64 0, .int .i64 0, .int .i64 0, .int .i64 0, .int .i64 0, .string ⟨#[]⟩] 33)).cell? ⟨p, 3, none⟩ = some (.pointer (some ⟨ps, 0, none⟩)) := (hrow.below HB0.out hrow.lt).at_ 3 _ hC
 have HZ := hid asize
 clear hrow hC
 unfold ANB
 go_enter Tryz.func11, Tryz.ntmps11
 go_wp2_with (first
  | (go_at_call 13; refine (HV.out _ HB0.out).mono ?_; rintro e w2 ⟨rfl, hb2⟩; have HB2 := hid (HB0.out.trans (hb2.mono HB0.out.size)); have HR2 := hid (HR0.out.below hb2 HR0.out.lt); clear hb2)
  | (refine wpl_store_st rfl (.tmp 8) (.tmp 21) rfl HZ.out w.heap.size an0.cells.toList an0.cells.toList rfl rfl HR2.out ?_ (hid rfl) (hid rfl) (hid rfl); intro w5 hr5 hg5))
 refine bodyPost_ret (v := .tuple #[an0.val, .bool false])
  (results_cell1 rfl _ _ w.heap.size 33 an0.cells (0, 0) _ (.bool false) rfl rfl hr5.arr Tryz.underlying33 rfl HZ.out) rfl ⟨rfl, HB2.out.trans (below_grown hg5 (Nat.le_refl _) HB2.out.size)⟩
theorem rcac_yes (p ps : Nat) (x : Ss) (b : Bool) (c s r : Int) (C : List Value) (w : World) (hrow : Row w p 45 C) (hC : C[3]? = some (.pointer (some ⟨ps, 0, none⟩)))
  (HV : Hid (∀ W, Below w.heap.size w W → Calls Tryz.prog 13 #[.pointer (some ⟨ps, 0, none⟩), .int .i64 c, .int .i64 s, .int .i64 r] W (VE W (.int .i64 2))))
  (HL : Hid (∀ W, Below w.heap.size w W → Calls Tryz.prog 35 #[.pointer (some ⟨ps, 0, none⟩), .int .i64 c] W (LK W x b))) :
  Calls Tryz.prog 11 #[.pointer (some ⟨p, 0, none⟩), .int .i64 c, .int .i64 s, .int .i64 r] w (ANB w (told x) true) := by
 have HB0 : Hid (Below w.heap.size w (w.alloc (.cells an0.cells 33))) := hid ((Below.refl _ _).alloc (Nat.le_refl _) _)
 have HR0 := hid (show Row (w.alloc (.cells an0.cells 33)) w.heap.size 33 an0.cells.toList from Row.new _ _ _)
 have hc3 : (w.alloc (.cells #[.int .i64 0, .int .i64 0, .int .i64 0, .int .i64 0, .int .i64 0, .string ⟨#[]⟩] 33)).cell? ⟨p, 3, none⟩ = some (.pointer (some ⟨ps, 0, none⟩)) := (hrow.below HB0.out hrow.lt).at_ 3 _ hC
 have HROW := hid hrow
 have HC := hid hC
 have HZ := hid asize
 have HZ5 := hid ssSize
 have HT := hid (fun W => rtold_any x W)
 have HA1 := hid (told x).one
 have HA6 := hid (show (told x).cells.size = 6 from rfl)
 have HX1 := hid (Ss.one x)
 have HX5 := hid (Ss.len x)
 clear hrow hC
 unfold ANB LK An.val at *
 generalize (told x).cells = A at *
 generalize x.cells = X at *
 go_enter Tryz.func11, Tryz.ntmps11
 go_wp2_with (first
  | (go_at_call 13; refine (HV.out _ HB0.out).mono ?_; rintro e w2 ⟨rfl, hb2⟩; have HB2 := hid (HB0.out.trans (hb2.mono HB0.out.size)); have HR2 := hid (HR0.out.below hb2 HR0.out.lt); have hc3' := (HROW.out.below HB2.out HROW.out.lt).at_ 3 _ HC.out; clear hb2 hc3)
  | (go_at_call 35; refine (HL.out _ HB2.out).mono ?_; rintro e w3 ⟨rfl, hb3⟩; have HB3 := hid (HB2.out.trans (hb3.mono HB2.out.size)); have HR3 := hid (HR2.out.below hb3 HR2.out.lt); clear hb3 hc3')
  | (refine wpl_store_st rfl (.tmp 10) (.tmp 29) rfl HZ5.out w3.heap.size ss0.cells X rfl rfl (Row.new _ _ _) ?_ (hid rfl) (hid HX5.out) (hid HX1.out); intro w4 hr4 hg4; have hb4 := ((Below.refl w3.heap.size w3).alloc (Nat.le_refl _) (.cells ss0.cells.toArray 75)).trans (below_grown hg4 (Nat.le_refl _) (by simp)); have HB4 := hid (HB3.out.trans (hb4.mono HB3.out.size)); have HR4 := hid (HR3.out.below hb4 HR3.out.lt); have HX4 := hid hr4; clear hr4 hg4 hb4)
  | (refine wpList_load_row rfl 75 (.tmp 10) rfl w3.heap.size rfl 75 X.toArray (0, 0) _ HX4.out.arr' Tryz.underlying75 rfl (by rw [List.size_toArray, HX5.out]; exact HZ5.out) ?_)
  | (go_at_call 36; refine (HT.out _).mono ?_; rintro e w5 ⟨rfl, hb5⟩; have HB5 := hid (HB4.out.trans (hb5.mono HB4.out.size)); have HR5 := hid (HR4.out.below hb5 HR4.out.lt); clear hb5)
  | (refine wpl_store_st9 rfl (.tmp 8) (.tmp 32) rfl HZ.out w.heap.size an0.cells A rfl rfl HR5.out ?_ (hid rfl) (hid HA6.out) (hid HA1.out); intro w6 hr6 hg6))
 refine bodyPost_ret (v := .tuple #[.agg A, .bool true])
  (results_cell1 rfl _ _ w.heap.size 33 A (0, 0) _ (.bool true) rfl rfl hr6.arr Tryz.underlying33 rfl (by rw [HA6.out]; exact HZ.out)) rfl ⟨rfl, HB5.out.trans (below_grown hg6 (Nat.le_refl _) HB5.out.size)⟩
theorem rcac_any (p : Nat) (S : Ma) (fp : List Nat) (c s r : Int) (w : World) (h : Hm KR p S fp w) : Calls Tryz.prog 11 #[.pointer (some ⟨p, 0, none⟩), .int .i64 c, .int .i64 s, .int .i64 r] w (ANB w (S.cac c s r) (S.cacB c s r)) := by
 obtain ⟨ps, pb, h⟩ := h
 obtain ⟨fs, hs⟩ := h.s
 unfold Ma.cac Ma.cacB
 by_cases h2 : ver S.w.T c s r = 2
 ·
  rw [if_pos h2, decide_eq_true h2]
  exact rcac_yes p ps (look S.w.T c) _ c s r _ w h.row rfl (hid fun W hW => h2 ▸ rver_any ps fs S.w.T c s r W (hs.below hW)) (hid fun W hW => rlook_any ps fs S.w.T c W (hs.below hW))
 ·
  rw [if_neg h2, decide_eq_false h2]
  exact rcac_no p ps (ver S.w.T c s r) c s r _ w (by simpa using h2) h.row rfl (hid fun W hW => rver_any ps fs S.w.T c s r W (hs.below hW))
end Go.Proofs.YtgednnjmcjhfmaaGreatDoor
