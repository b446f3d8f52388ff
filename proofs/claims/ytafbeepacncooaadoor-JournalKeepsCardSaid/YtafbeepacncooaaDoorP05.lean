/-
  The walks of package journal's note, find: what a slot's sectors are held against.
-/
import Derived.Test.YtafbeepacncooaaDoorP04
namespace Go.Proofs.YtafbeepacncooaaDoor
open Go.RowKit
set_option maxRecDepth 10000

theorem stub_range {w0 w : World} {jp p gs : Nat} {S : Sp} {J : Jn} {G : List Nat} (h : Jd w0 w jp p gs S J G) {s : Nat} (hs : s < 8) : w.rangeAt jp (2 + s * 15 + 1) (J.item (slotN J.c s)).stub.cells.toList := fun j v hv => by
 have hj : j < 5 := (List.getElem?_eq_some_iff.1 hv).1
 have e : (itC (J.item (slotN J.c s)))[1 + j]? = some v := by
  show (It.cells _).toList[1 + j]? = _
  rw [show 1 + j = j + 1 by omega]
  have e2 : (J.item (slotN J.c s)).cells.toList = .int .i64 (J.item (slotN J.c s)).kind :: ((J.item (slotN J.c s)).stub.cells.toList ++ (J.item (slotN J.c s)).entry.cells.toList) := rfl
  rw [e2, List.getElem?_cons_succ, List.getElem?_append_left hj]
  exact hv
 have := h.cell hs (j := 1 + j) (by omega) e
 rw [show 2 + s * 15 + 1 + j = 2 + s * 15 + (1 + j) by omega]
 exact this
/-- what note lays -/
noncomputable def noteP (x : It) (h : List UInt8) : List Lay := if (stubT h).1 = x.stub then [] else [lS x.stub]
theorem stubs_one (s : St) : s.cells.all (·.oneCell') = true := by simp [St.cells, Value.oneCell']
/-- one layer that was just made -/
theorem ly_new {w' : World} {G : List Nat} {x : Ly} {g : Nat} (hx : x.At w' (g :: G)) (hr : Row w' g 87 x.cells) : LyAt w' (g :: G) (some ⟨g, 0, none⟩) [x] :=
 ⟨by simpa using hx, fun _ => ⟨g, 0, rfl, by simp, fun k j v hk hv => by
  obtain rfl : k = 0 := by simpa using hk
  rw [hr.cell]
  simpa using hv⟩⟩
set_option maxHeartbeats 4000000 in
theorem note_any13 {w0 w : World} {jp p gs : Nat} {S : Sp} {J : Jn} {G : List Nat} (h : Jd w0 w jp p gs S J G) (s : Nat) (hs : s < 8) (hr : SRt (J.item (slotN J.c s)).stub) (hf : (J.item (slotN J.c s)).stub.fits) (ho : hN (J.item (slotN J.c s)).stub.opn = 12 + s) (hd : ByteArray) (hc : S.count ≤ 1000000) :
  Calls Tryd.prog 60 #[.pointer (some ⟨jp, 0, none⟩), .int .i64 (s : Int), .string hd] w (JC w0 w jp p gs (layL S (noteP (J.item (slotN J.c s)) (sb hd))).1 J G (.int .i64 (layL S (noteP (J.item (slotN J.c s)) (sb hd))).2)) := by
 have HZ := hid stsize
 have HZL := hid laySize
 have hb : (s : Int) < 8 := by omega
 have HRG := hid (stub_range h hs)
 have HT : Hid (∀ W, Calls Tryd.prog 52 #[.string hd] W (LQ W (stubT (sb hd)).1.cells (stubT (sb hd)).2.1 (stubT (sb hd)).2.2)) := hid fun W => stubT_any hd W
 have HH := hid h
 obtain ⟨i0, hi0, hi1, hi2⟩ := layInfo
 have HSZ : Hid (∀ t : St, t.cells.size = 5) := hid fun t => rfl
 have HON : Hid (∀ t : St, t.cells.all (·.oneCell') = true) := hid stubs_one
 unfold noteP
 generalize (J.item (slotN J.c s)).stub = t at *
 generalize stubT (sb hd) = T at *
 obtain ⟨y, b1, b2⟩ := T
 simp only at *
 by_cases hy : y = t
 ·
  rw [if_pos hy]
  have HEQ := hid (show decide (y = t) = true by simp [hy])
  clear hr hf ho h hc hy
  go_enter Tryd.func60, Tryd.ntmps60
  go_wp2_with (first
   | (refine wpl_load_midw rfl 42 (.tmp 16) rfl jp (2 + s * 15 + 1) rfl t.cells.toList _ HRG.out Tryd.underlying42 rfl (by rw [Array.length_toList, HSZ.out]; exact HZ.out) ?_)
   | (refine wpl_store_st rfl (.tmp 7) (.tmp 17) rfl (n := 5) HZ.out w.heap.size st0.cells t.cells rfl rfl (Row.new _ _ _) ?_ (hid rfl) (hid (HSZ.out _)) (hid (HON.out _)); intro w1 hr1 hb1; have b1' : Below w.heap.size w w1 := ((Below.refl w.heap.size w).alloc (Nat.le_refl _) _).trans (below_grown hb1 (Nat.le_refl _) (by simp)); have H1 := hid (HH.out.add b1' (Nat.le_refl _) hr1.lt); have E1 := hid (HH.out.new b1').2; have R1 := hid hr1; clear hr1 hb1 b1')
   | (go_at_call 52; refine (HT.out _).mono ?_; rintro e w2 ⟨rfl, hb2⟩; have H2 := hid (H1.out.new hb2).1; have E2 := hid (E1.out.trans (H1.out.new hb2).2.tail); have R2 := hid ((H1.out.new hb2).2.row R1.out (by simp)); clear hb2)
   | (refine wpl_store_st rfl (.tmp 8) (.tmp 21) rfl (n := 5) HZ.out w2.heap.size st0.cells y.cells rfl rfl (Row.new _ _ _) ?_ (hid rfl) (hid (HSZ.out _)) (hid (HON.out _)); intro w4 hr4 hb4; have b4' : Below w2.heap.size w2 w4 := ((Below.refl w2.heap.size w2).alloc (Nat.le_refl _) _).trans (below_grown hb4 (Nat.le_refl _) (by simp)); have H4 := hid (H2.out.add b4' (Nat.le_refl _) hr4.lt); have E4 := hid (E2.out.trans (H2.out.new b4').2.tail); have Q4 := hid ((H2.out.new b4').2.row R2.out (by simp)); have R4 := hid hr4; clear hr4 hb4 b4')
   | (refine wpList_load_row rfl 42 (.tmp 8) rfl w2.heap.size rfl 42 y.cells (0, 0) _ R4.out.arr Tryd.underlying42 rfl (by rw [HSZ.out]; exact HZ.out) ?_)
   | (refine wpList_load_row rfl 42 (.tmp 7) rfl w.heap.size rfl 42 t.cells (0, 0) _ Q4.out.arr Tryd.underlying42 rfl (by rw [HSZ.out]; exact HZ.out) ?_)
   | (refine wpl_eqs rfl y t _ (.tmp 24) (.tmp 25) _ rfl rfl rfl HEQ ?_))
  go_ret
  exact ⟨rfl, H4.out.tail.tail, E4.out⟩
 ·
  rw [if_neg hy]
  have HEQ := hid (show decide (y = t) = false by simp [hy])
  have HLY : Hid (∀ W g gl, Jd w0 W jp p gs S J (gl :: g :: G) → Row W g 42 t.cells.toList → Row W gl 87 [.int .i64 ((12 + s : Nat) : Int), fsV g] → Calls Tryd.prog 40 #[.pointer (some ⟨jp, 0, none⟩), .slice (some ⟨gl, 0, none⟩) 1 1] W (JC w0 W jp p gs (layL S [lS t]).1 J (gl :: g :: G) (.int .i64 (layL S [lS t]).2))) := hid fun W g gl hW hg hl =>
   lay_any13 hW [.s t g] (some ⟨gl, 0, none⟩) 1 (ly_new (x := .s t g) ⟨by simp, hg, hf, hr⟩ (by unfold Ly.cells; show Row W gl _ [.int .i64 (hN t.opn : Int), fsV g]; rw [ho]; exact hl)) (by simp; omega)
  have HWS := hid ws_any
  have HHD : Hid (∀ g W, Calls Tryd.prog 43 #[.int .i64 (s : Int), fsV g] W (VE W (.agg #[.int .i64 ((12 + s : Nat) : Int), fsV g]))) := hid fun g W => head_s s g W hs
  generalize layL S [lS t] = R at *
  clear hr hf ho h hc hy
  go_enter Tryd.func60, Tryd.ntmps60
  go_wp2_with (first
   | (refine wpl_load_midw rfl 42 (.tmp 16) rfl jp (2 + s * 15 + 1) rfl t.cells.toList _ HRG.out Tryd.underlying42 rfl (by rw [Array.length_toList, HSZ.out]; exact HZ.out) ?_)
   | (refine wpl_store_st rfl (.tmp 7) (.tmp 17) rfl (n := 5) HZ.out w.heap.size st0.cells t.cells rfl rfl (Row.new _ _ _) ?_ (hid rfl) (hid (HSZ.out _)) (hid (HON.out _)); intro w1 hr1 hb1; have b1' : Below w.heap.size w w1 := ((Below.refl w.heap.size w).alloc (Nat.le_refl _) _).trans (below_grown hb1 (Nat.le_refl _) (by simp)); have H1 := hid (HH.out.add b1' (Nat.le_refl _) hr1.lt); have E1 := hid (HH.out.new b1').2; have R1 := hid hr1; clear hr1 hb1 b1')
   | (go_at_call 52; refine (HT.out _).mono ?_; rintro e w2 ⟨rfl, hb2⟩; have H2 := hid (H1.out.new hb2).1; have E2 := hid (E1.out.trans (H1.out.new hb2).2.tail); have R2 := hid ((H1.out.new hb2).2.row R1.out (by simp)); clear hb2)
   | (refine wpl_store_st rfl (.tmp 8) (.tmp 21) rfl (n := 5) HZ.out w2.heap.size st0.cells y.cells rfl rfl (Row.new _ _ _) ?_ (hid rfl) (hid (HSZ.out _)) (hid (HON.out _)); intro w4 hr4 hb4; have b4' : Below w2.heap.size w2 w4 := ((Below.refl w2.heap.size w2).alloc (Nat.le_refl _) _).trans (below_grown hb4 (Nat.le_refl _) (by simp)); have H4 := hid (H2.out.add b4' (Nat.le_refl _) hr4.lt); have E4 := hid (E2.out.trans (H2.out.new b4').2.tail); have Q4 := hid ((H2.out.new b4').2.row R2.out (by simp)); have R4 := hid hr4; clear hr4 hb4 b4')
   | (refine wpList_load_row rfl 42 (.tmp 8) rfl w2.heap.size rfl 42 y.cells (0, 0) _ R4.out.arr Tryd.underlying42 rfl (by rw [HSZ.out]; exact HZ.out) ?_)
   | (refine wpList_load_row rfl 42 (.tmp 7) rfl w.heap.size rfl 42 t.cells (0, 0) _ Q4.out.arr Tryd.underlying42 rfl (by rw [HSZ.out]; exact HZ.out) ?_)
   | (refine wpl_eqs rfl y t _ (.tmp 24) (.tmp 25) _ rfl rfl rfl HEQ ?_)
   | (go_at_call 64; refine (HWS.out _ _).mono ?_; rintro e w5 ⟨rfl, hw5⟩; have r5 : Row w5 w4.heap.size 42 t.cells.toList := (by rw [hw5]; exact Row.new _ _ _); have b5 : Below w4.heap.size w4 w5 := (by rw [hw5]; exact (Below.refl _ _).alloc (Nat.le_refl _) _); have H5 := hid (H4.out.tail.tail.add b5 (Nat.le_refl _) r5.lt); have E5 := hid (E4.out.trans (H4.out.tail.tail.new b5).2); have R5 := hid r5; clear r5 b5 hw5)
   | (go_at_call 43; refine (HHD.out _ _).mono ?_; rintro e w6 ⟨rfl, hb6⟩; have H6 := hid (H5.out.new hb6).1; have E6 := hid (E5.out.trans (H5.out.new hb6).2.tail); have R6 := hid ((H5.out.new hb6).2.row R5.out (by simp)); clear hb6)
   | (refine wpl_slice1 rfl 82 87 (.tmp 31) rfl i0 _ 2 Tryd.underlying82 hi0 hi1 hi2 (by decide) (by decide) [.int .i64 ((12 + s : Nat) : Int), fsV w4.heap.size] rfl rfl ?_; have r7 : Row (w6.alloc (.cells [.int .i64 ((12 + s : Nat) : Int), fsV w4.heap.size].toArray 87)) w6.heap.size 87 [.int .i64 ((12 + s : Nat) : Int), fsV w4.heap.size] := Row.new _ _ _; have b7 := (Below.refl w6.heap.size w6).alloc (Nat.le_refl _) (.cells [.int .i64 ((12 + s : Nat) : Int), fsV w4.heap.size].toArray 87); have H7 := hid (H6.out.add b7 (Nat.le_refl _) r7.lt); have E7 := hid (E6.out.trans (H6.out.new b7).2.tail); have q7 := hid ((H6.out.new b7).2.row R6.out (by simp)); have R7 := hid r7; clear r7 b7)
   | (go_at_call 40; refine (HLY.out _ _ _ H7.out q7.out R7.out).mono ?_; rintro e w8 ⟨rfl, h8, k8⟩; have H8 := hid h8; have E8 := hid (E7.out.trans k8.tail.tail); clear h8 k8))
  go_ret
  exact ⟨rfl, H8.out.tail.tail, E8.out⟩
end Go.Proofs.YtafbeepacncooaaDoor
