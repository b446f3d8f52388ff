/-
  The program's may, empty.
-/
import Derived.Test.YtcildaeiogdfdaaDoorM20
namespace Go.Proofs.YtcildaeiogdfdaaDoor
open Go.RowKit
set_option maxRecDepth 10000

theorem ba_empty (b : ByteArray) : b.toList.isEmpty = decide (b = ⟨#[]⟩) := by
  rw [ByteArray.toList_eq, Bool.eq_iff_iff, decide_eq_true_iff, List.isEmpty_iff]
  constructor
  · intro h
    apply ByteArray.ext
    apply Array.toList_inj.1
    exact h
  · intro h
    rw [h]
theorem six_size17 : (Tryd.prog.info? 25).map (·.size) = some 6 := by kernel_rfl
set_option maxHeartbeats 4000000 in
theorem may_111 (m : Ms) (p : Pl) (w : World) : Calls Tryd.prog 21 #[.agg (m.cells p), .int .i32 111] w (VE w (.bool (decide (mayS m 111)))) := by
  have HB0 : Hid (Below w.heap.size w (w.alloc (.cells (m.cells p) 31))) := hid ((Below.refl _ _).alloc (Nat.le_refl _) _)
  have R1 : Hid (Row (w.alloc (.cells (m.cells p) 31)) w.heap.size 31 (m.cells p).toList) := hid (Row.new _ _ _)
  have a9 : (w.alloc (.cells (m.cells p) 31)).cell? ⟨w.heap.size, 9, none⟩ = some (.int .i64 m.oper) := R1.out.cell 9
  have HD : Hid (decide (mayS m 111) = wi 0 255 [m.oper]) := hid (by rw [Bool.eq_iff_iff, decide_eq_true_iff]; simp [wi, mayS])
  have HW := hid (mwiA 255 [m.oper] #[.int .i64 m.oper] 1 (by simp) (by simp) rfl rfl)
  rw [HD.out]
  generalize wi 0 255 [m.oper] = b at *
  clear HD
  go_enter Tryd.func21, Tryd.ntmps21
  go_wp2_with (go_at_call 19; refine (HW.out _ _ (by simp)).mono ?_; rintro e w' ⟨rfl, rfl⟩)
  go_ret
  refine ⟨rfl, ?_⟩
  repeat' first | exact Below.refl _ _ | refine Below.alloc ?_ (by simp <;> omega) _
set_option maxHeartbeats 4000000 in
theorem may_67 (m : Ms) (p : Pl) (w : World) : Calls Tryd.prog 21 #[.agg (m.cells p), .int .i32 67] w (VE w (.bool (decide (mayS m 67)))) := by
  have HB0 : Hid (Below w.heap.size w (w.alloc (.cells (m.cells p) 31))) := hid ((Below.refl _ _).alloc (Nat.le_refl _) _)
  have R1 : Hid (Row (w.alloc (.cells (m.cells p) 31)) w.heap.size 31 (m.cells p).toList) := hid (Row.new _ _ _)
  have a12 : (w.alloc (.cells (m.cells p) 31)).cell? ⟨w.heap.size, 12, none⟩ = some (.int .i64 m.check.opn) := R1.out.cell 12
  have a13 : (w.alloc (.cells (m.cells p) 31)).cell? ⟨w.heap.size, 13, none⟩ = some (.int .i64 m.check.view) := R1.out.cell 13
  have HD : Hid (decide (mayS m 67) = wi 0 72057594037927935 [m.check.opn, m.check.view]) := hid (by rw [Bool.eq_iff_iff, decide_eq_true_iff]; simp [wi, mayS, Fi])
  have HW := hid (mwiA 72057594037927935 [m.check.opn, m.check.view] #[.int .i64 m.check.opn, .int .i64 m.check.view] 2 (by simp) (by simp) rfl rfl)
  rw [HD.out]
  generalize wi 0 72057594037927935 [m.check.opn, m.check.view] = b at *
  clear HD
  go_enter Tryd.func21, Tryd.ntmps21
  go_wp2_with (go_at_call 19; refine (HW.out _ _ (by simp)).mono ?_; rintro e w' ⟨rfl, rfl⟩)
  go_ret
  refine ⟨rfl, ?_⟩
  repeat' first | exact Below.refl _ _ | refine Below.alloc ?_ (by simp <;> omega) _
set_option maxHeartbeats 4000000 in
theorem may_83 (m : Ms) (p : Pl) (w : World) : Calls Tryd.prog 21 #[.agg (m.cells p), .int .i32 83] w (VE w (.bool (decide (mayS m 83)))) := by
  have HB0 : Hid (Below w.heap.size w (w.alloc (.cells (m.cells p) 31))) := hid ((Below.refl _ _).alloc (Nat.le_refl _) _)
  have R1 : Hid (Row (w.alloc (.cells (m.cells p) 31)) w.heap.size 31 (m.cells p).toList) := hid (Row.new _ _ _)
  have HD : Hid (decide (mayS m 83) = true) := hid (by simp [mayS])
  rw [HD.out]
  clear HD
  go_enter Tryd.func21, Tryd.ntmps21
  go_wp2_with fail
  go_ret
  exact ⟨rfl, HB0.out⟩
set_option maxHeartbeats 4000000 in
theorem may_69 (m : Ms) (p : Pl) (w : World) : Calls Tryd.prog 21 #[.agg (m.cells p), .int .i32 69] w (VE w (.bool (decide (mayS m 69)))) := by
  have HB0 : Hid (Below w.heap.size w (w.alloc (.cells (m.cells p) 31))) := hid ((Below.refl _ _).alloc (Nat.le_refl _) _)
  have R1 : Hid (Row (w.alloc (.cells (m.cells p) 31)) w.heap.size 31 (m.cells p).toList) := hid (Row.new _ _ _)
  have HD : Hid (decide (mayS m 69) = decide (Rt m.entry)) := hid rfl
  have HR := hid (fun W => eright_any m.entry W)
  have HZE := hid esize
  rw [HD.out]
  generalize decide (Rt m.entry) = b at *
  clear HD
  go_enter Tryd.func21, Tryd.ntmps21
  go_wp2_with (first
    | ((with_reducible show wpList _ _ _ ({ dst := some 27, op := _, type := _, pos := _, after := _, guard := _ } :: _) _ _); refine wpl_load_midw rfl 27 (.tmp 26) rfl w.heap.size 21 rfl (Array.toList (m.entry.cells)) _ (ms_entry R1.out) Tryd.underlying27 rfl (by exact HZE.out) ?_)
    | (go_at_call 45; refine (HR.out _).mono ?_; rintro e w1 ⟨rfl, hb1⟩))
  go_ret
  exact ⟨rfl, HB0.out.trans (hb1.mono HB0.out.size)⟩
set_option maxHeartbeats 4000000 in
theorem may_76 (m : Ms) (p : Pl) (w : World) (B : Nat) (hm : PlOk w B m p) (hB : B ≤ w.heap.size) (hf : m.fits) (hfd : Fd w) : Calls Tryd.prog 21 #[.agg (m.cells p), .int .i32 76] w (VE w (.bool (decide (mayS m 76)))) := by
  have HB0 : Hid (Below w.heap.size w (w.alloc (.cells (m.cells p) 31))) := hid ((Below.refl _ _).alloc (Nat.le_refl _) _)
  have R1 : Hid (Row (w.alloc (.cells (m.cells p) 31)) w.heap.size 31 (m.cells p).toList) := hid (Row.new _ _ _)
  have a30 : (w.alloc (.cells (m.cells p) 31)).cell? ⟨w.heap.size, 30, none⟩ = some (.slice p.A m.es.length p.cA) := R1.out.cell 30
  have HD : Hid (decide (mayS m 76) = decide (mayE m.es)) := hid rfl
  have HR : Hid (∀ W, Below w.heap.size w W → Calls Tryd.prog 46 #[.slice p.A m.es.length p.cA] W (VE W (.bool (decide (mayE m.es))))) := hid (fun W hW => mayEntries_any m.es p.A p.cA B W (hm.a.below hW hB) (Nat.le_trans hB hW.size) hm.ca hm.la hf.2.2.2.2.2.1 (hfd.below hW hfd.1))
  rw [HD.out]
  generalize decide (mayE m.es) = b at *
  clear HD hm hf hfd
  go_enter Tryd.func21, Tryd.ntmps21
  go_wp2_with (go_at_call 46; refine (HR.out _ HB0.out).mono ?_; rintro e w1 ⟨rfl, hb1⟩)
  go_ret
  exact ⟨rfl, HB0.out.trans (hb1.mono HB0.out.size)⟩
set_option maxHeartbeats 4000000 in
theorem may_73 (m : Ms) (p : Pl) (w : World) (B : Nat) (hm : PlOk w B m p) (hB : B ≤ w.heap.size) (hf : m.fits) (hfd : Fd w) : Calls Tryd.prog 21 #[.agg (m.cells p), .int .i32 73] w (VE w (.bool (decide (mayS m 73)))) := by
  have HB0 : Hid (Below w.heap.size w (w.alloc (.cells (m.cells p) 31))) := hid ((Below.refl _ _).alloc (Nat.le_refl _) _)
  have R1 : Hid (Row (w.alloc (.cells (m.cells p) 31)) w.heap.size 31 (m.cells p).toList) := hid (Row.new _ _ _)
  have a31 : (w.alloc (.cells (m.cells p) 31)).cell? ⟨w.heap.size, 31, none⟩ = some (.slice p.B m.xs.length p.cB) := R1.out.cell 31
  have HD : Hid (decide (mayS m 73) = decide (mayX m.xs)) := hid rfl
  have HR : Hid (∀ W, Below w.heap.size w W → Calls Tryd.prog 47 #[.slice p.B m.xs.length p.cB] W (VE W (.bool (decide (mayX m.xs))))) := hid (fun W hW => mayItems_any m.xs p.B p.cB B W (hm.b.below hW hB) (Nat.le_trans hB hW.size) hm.cb hm.lb hf.2.2.2.2.2.2 (hfd.below hW hfd.1))
  rw [HD.out]
  generalize decide (mayX m.xs) = b at *
  clear HD hm hf hfd
  go_enter Tryd.func21, Tryd.ntmps21
  go_wp2_with (go_at_call 47; refine (HR.out _ HB0.out).mono ?_; rintro e w1 ⟨rfl, hb1⟩)
  go_ret
  exact ⟨rfl, HB0.out.trans (hb1.mono HB0.out.size)⟩
set_option maxHeartbeats 4000000 in
theorem may_66 (m : Ms) (p : Pl) (w : World) : Calls Tryd.prog 21 #[.agg (m.cells p), .int .i32 66] w (VE w (.bool (decide (mayS m 66)))) := by
  have HB0 : Hid (Below w.heap.size w (w.alloc (.cells (m.cells p) 31))) := hid ((Below.refl _ _).alloc (Nat.le_refl _) _)
  have R1 : Hid (Row (w.alloc (.cells (m.cells p) 31)) w.heap.size 31 (m.cells p).toList) := hid (Row.new _ _ _)
  have C0 : Hid (∀ W, Row W w.heap.size 31 (m.cells p).toList ∧ Below w.heap.size w W → W.cell? ⟨w.heap.size, 0, none⟩ = some (.int .i64 m.kind)) := hid fun W h => h.1.cell 0
  have C32 : Hid (∀ W, Row W w.heap.size 31 (m.cells p).toList ∧ Below w.heap.size w W → W.cell? ⟨w.heap.size, 32, none⟩ = some (.string m.body)) := hid fun W h => h.1.cell 32
  have HL := hid (fun W => longest_any m.kind W)
  have HD : Hid (decide (mayS m 66) = decide ((m.body.size : Int) ≤ (if m.kind = 15 then 320 else 200))) := hid rfl
  rw [HD.out]
  generalize (if m.kind = 15 then (320 : Int) else 200) = L at *
  clear HD
  go_enter Tryd.func21, Tryd.ntmps21
  go_wp2_with fail
  refine wp_region_held_drew (S := (fun W => Row W w.heap.size 31 (m.cells p).toList ∧ Below w.heap.size w W)) (by kernel_rfl) (⟨R1.out.drew, HB0.out.drew⟩) (fun hH => ?_)
  refine tk_ (i := 0) (v := .pointer (some ⟨w.heap.size, 32, none⟩)) rfl (Or.inl ⟨by kernel_rfl, fun w' _ => by kernel_rfl⟩) hH ?_
  simp only [Act.put, la1, la3, la4, la5, la6]
  refine tk_ (i := 1) (v := .string m.body) rfl (Or.inl ⟨by rfl, fun w' hw' => by have h := C32.out w' hw'; go_simp⟩) hH ?_
  simp only [Act.put, la1, la2, la3, la4, la5, la6]
  refine tk_ (i := 2) (v := .int .i64 (m.body.size : Int)) rfl (Or.inl ⟨by rfl, fun w' hw' => by clear hw'; go_simp⟩) hH ?_
  simp only [Act.put, la1, la2, la3, la4, la5, la6]
  refine tk_ (i := 3) (v := .pointer (some ⟨w.heap.size, 0, none⟩)) rfl (Or.inl ⟨by kernel_rfl, fun w' _ => by kernel_rfl⟩) hH ?_
  simp only [Act.put, la1, la2, la3, la4, la5, la6]
  refine tk_ (i := 4) (v := .int .i64 m.kind) rfl (Or.inl ⟨by rfl, fun w' hw' => by have h := C0.out w' hw'; go_simp⟩) hH ?_
  simp only [Act.put, la1, la2, la3, la4, la5, la6]
  refine rd1 (i := 5) (by kernel_rfl) rfl (fun K hK => ?_)
  go_simp
  go_at_call 48
  refine (HL.out _).mono ?_
  rintro e w1 ⟨rfl, rfl⟩
  go_wp2_with fail
  refine hK.out _ _ (⟨hH.1, hH.2⟩) (fun hH => ?_)
  clear hK K
  try simp only [Act.put, la1, la2, la3, la4, la5, la6]
  refine tk_ (i := 6) (v := .bool (decide ((m.body.size : Int) ≤ L))) rfl (Or.inl ⟨by rfl, fun w' hw' => by clear hw'; go_simp⟩) hH ?_
  simp only [Act.put, la1, la2, la3, la4, la5, la6]
  refine rd1 (i := 7) (by kernel_rfl) rfl (fun K hK => ?_)
  go_simp
  refine hK.out _ _ (hH) (fun hH => ?_)
  clear hK K
  try simp only [Act.put, la1, la2, la3, la4, la5, la6]
  refine wpAnyH_done (by kernel_rfl) ?_ _
  try simp only [Act.put, la1, la2, la3, la4, la5, la6]
  go_wp2_with fail
  go_ret
  exact ⟨rfl, hH.2⟩
set_option maxHeartbeats 4000000 in
theorem may_num (m : Ms) (p : Pl) (w : World) (c : Nat) (hc : c ∈ [118, 108, 112, 109, 99, 115, 114, 120, 122]) : Calls Tryd.prog 21 #[.agg (m.cells p), .int .i32 (c : Int)] w (VE w (.bool (decide (mayS m c)))) := by
  have HB0 : Hid (Below w.heap.size w (w.alloc (.cells (m.cells p) 31))) := hid ((Below.refl _ _).alloc (Nat.le_refl _) _)
  have R1 : Hid (Row (w.alloc (.cells (m.cells p) 31)) w.heap.size 31 (m.cells p).toList) := hid (Row.new _ _ _)
  have HD : Hid (decide (mayS m c) = wi 0 72057594037927935 [numS m c]) := hid (by
    simp only [List.mem_cons, List.not_mem_nil, or_false] at hc
    rcases hc with rfl | rfl | rfl | rfl | rfl | rfl | rfl | rfl | rfl <;> simp [wi, mayS, Fi])
  have HN : Hid (∀ W, Calls Tryd.prog 49 #[.agg (m.cells p), .int .i32 (c : Int)] W (VE W (.int .i64 (numS m c)))) := hid (fun W => number_any m p c (by
    simp only [List.mem_cons, List.not_mem_nil, or_false] at hc
    rcases hc with rfl | rfl | rfl | rfl | rfl | rfl | rfl | rfl | rfl <;> simp [sgN]) W)
  have HZS := hid mssize
  rw [HD.out]
  clear HD
  generalize numS m c = N at *
  have HW := hid (mwiA 72057594037927935 [N] #[.int .i64 N] 1 (by simp) (by simp) rfl rfl)
  generalize wi 0 72057594037927935 [N] = b at *
  simp only [List.mem_cons, List.not_mem_nil, or_false] at hc
  rcases hc with rfl | rfl | rfl | rfl | rfl | rfl | rfl | rfl | rfl
  all_goals
    go_enter Tryd.func21, Tryd.ntmps21
    go_wp2_with (first
      | ((with_reducible show wpList _ _ _ ({ dst := some 48, op := _, type := _, pos := _, after := _, guard := _ } :: _) _ _); refine wpList_load_row rfl 31 (.tmp 2) rfl w.heap.size rfl 31 (m.cells p) (0, 0) _ (Row.arr R1.out) Tryd.underlying31 rfl HZS.out ?_)
      | (go_at_call 49; refine (HN.out _).mono ?_; rintro e w1 ⟨rfl, hb1⟩)
      | (go_at_call 19; refine (HW.out _ _ (by simp)).mono ?_; rintro e w' ⟨rfl, rfl⟩))
    go_ret
    exact ⟨rfl, (HB0.out.trans (hb1.mono HB0.out.size)).alloc (HB0.out.trans (hb1.mono HB0.out.size)).size _⟩
theorem may_any (m : Ms) (p : Pl) (w : World) (B : Nat) (hm : PlOk w B m p) (hB : B ≤ w.heap.size) (hf : m.fits) (hfd : Fd w) (c : Nat) (hc : c ∈ sgA) :
    Calls Tryd.prog 21 #[.agg (m.cells p), .int .i32 (c : Int)] w (VE w (.bool (decide (mayS m c)))) := by
  by_cases hn : c ∈ [118, 108, 112, 109, 99, 115, 114, 120, 122]
  · exact may_num m p w c hn
  simp only [sgA, List.mem_cons, List.not_mem_nil, or_false] at hc hn
  have h7 : c = 111 ∨ c = 67 ∨ c = 83 ∨ c = 69 ∨ c = 76 ∨ c = 73 ∨ c = 66 := by omega
  clear hc hn
  rcases h7 with rfl | rfl | rfl | rfl | rfl | rfl | rfl
  · exact may_111 m p w
  · exact may_67 m p w
  · exact may_83 m p w
  · exact may_69 m p w
  · exact may_76 m p w B hm hB hf hfd
  · exact may_73 m p w B hm hB hf hfd
  · exact may_66 m p w
set_option maxHeartbeats 4000000 in
theorem empty_67 (m : Ms) (p : Pl) (w : World) : Calls Tryd.prog 22 #[.agg (m.cells p), .int .i32 67] w (VE w (.bool (decide (emptyS m 67)))) := by
  have HB0 : Hid (Below w.heap.size w (w.alloc (.cells (m.cells p) 31))) := hid ((Below.refl _ _).alloc (Nat.le_refl _) _)
  have R1 : Hid (Row (w.alloc (.cells (m.cells p) 31)) w.heap.size 31 (m.cells p).toList) := hid (Row.new _ _ _)
  have HZ := hid msize
  obtain ⟨b, hb⟩ : ∃ b, decide (m.check = mk0) = b := ⟨_, rfl⟩
  have HE := hid hb
  have HD : Hid (decide (emptyS m 67) = b) := hid hb
  rw [HD.out]
  clear HD hb
  go_enter Tryd.func22, Tryd.ntmps22
  go_wp2_with (first
    | ((with_reducible show wpList _ _ _ ({ dst := some 9, op := _, type := _, pos := _, after := _, guard := _ } :: _) _ _); refine wpl_load_midw rfl 24 (.tmp 8) rfl w.heap.size 12 rfl (Array.toList (m.check.cells)) _ (ms_check R1.out) Tryd.underlying24 rfl (by exact HZ.out) ?_)
    | ((with_reducible show wpList _ _ _ ({ dst := some 11, op := _, type := _, pos := _, after := _, guard := _ } :: _) _ _); refine wpl_eqm rfl m.check mk0 _ (.tmp 9) (.tmp 10) _ rfl rfl rfl HE ?_))
  go_ret
  exact ⟨rfl, HB0.out⟩
set_option maxHeartbeats 4000000 in
theorem empty_83 (m : Ms) (p : Pl) (w : World) (hs : m.sums.length = 6) : Calls Tryd.prog 22 #[.agg (m.cells p), .int .i32 83] w (VE w (.bool (decide (emptyS m 83)))) := by
  have HB0 : Hid (Below w.heap.size w (w.alloc (.cells (m.cells p) 31))) := hid ((Below.refl _ _).alloc (Nat.le_refl _) _)
  have R1 : Hid (Row (w.alloc (.cells (m.cells p) 31)) w.heap.size 31 (m.cells p).toList) := hid (Row.new _ _ _)
  have HZ := hid six_size17
  obtain ⟨b, hb⟩ : ∃ b, decide (m.sums = z6) = b := ⟨_, rfl⟩
  have HE := hid hb
  have HD : Hid (decide (emptyS m 83) = b) := hid hb
  have HS := hid hs
  have HS0 : Hid (z6.length = 6) := hid rfl
  rw [HD.out]
  clear HD hb hs
  go_enter Tryd.func22, Tryd.ntmps22
  go_wp2_with (first
    | ((with_reducible show wpList _ _ _ ({ dst := some 15, op := _, type := _, pos := _, after := _, guard := _ } :: _) _ _); refine wpl_load_midw rfl 25 (.tmp 14) rfl w.heap.size 15 rfl (Array.toList (sixV m.sums)) _ (ms_sums R1.out) Tryd.underlying25 rfl (by exact HZ.out) ?_)
    | ((with_reducible show wpList _ _ _ ({ dst := some 17, op := _, type := _, pos := _, after := _, guard := _ } :: _) _ _); refine wpl_eq6 rfl m.sums z6 _ (.tmp 15) (.tmp 16) _ rfl rfl rfl HS HS0 HE ?_))
  go_ret
  exact ⟨rfl, HB0.out⟩
set_option maxHeartbeats 4000000 in
theorem empty_69 (m : Ms) (p : Pl) (w : World) : Calls Tryd.prog 22 #[.agg (m.cells p), .int .i32 69] w (VE w (.bool (decide (emptyS m 69)))) := by
  have HB0 : Hid (Below w.heap.size w (w.alloc (.cells (m.cells p) 31))) := hid ((Below.refl _ _).alloc (Nat.le_refl _) _)
  have R1 : Hid (Row (w.alloc (.cells (m.cells p) 31)) w.heap.size 31 (m.cells p).toList) := hid (Row.new _ _ _)
  have HZ := hid esize
  obtain ⟨b, hb⟩ : ∃ b, decide (m.entry = en0) = b := ⟨_, rfl⟩
  have HE : Hid (b = true ↔ m.entry = en0) := hid (by rw [← hb]; simp)
  have HD : Hid (decide (emptyS m 69) = b) := hid hb
  rw [HD.out]
  clear HD hb
  go_enter Tryd.func22, Tryd.ntmps22
  go_wp2_with (first
    | ((with_reducible show wpList _ _ _ ({ dst := some 21, op := _, type := _, pos := _, after := _, guard := _ } :: _) _ _); refine wpl_load_midw rfl 27 (.tmp 20) rfl w.heap.size 21 rfl (Array.toList (m.entry.cells)) _ (ms_entry R1.out) Tryd.underlying27 rfl (by exact HZ.out) ?_)
    | ((with_reducible show wpList _ _ _ ({ dst := some 23, op := _, type := _, pos := _, after := _, guard := _ } :: _) _ _); refine wpl_eqe2 rfl m.entry en0 _ (.tmp 21) (.tmp 22) _ rfl rfl rfl HE ?_))
  go_ret
  exact ⟨rfl, HB0.out⟩
set_option maxHeartbeats 4000000 in
theorem empty_76 (m : Ms) (p : Pl) (w : World) : Calls Tryd.prog 22 #[.agg (m.cells p), .int .i32 76] w (VE w (.bool (decide (emptyS m 76)))) := by
  have HB0 : Hid (Below w.heap.size w (w.alloc (.cells (m.cells p) 31))) := hid ((Below.refl _ _).alloc (Nat.le_refl _) _)
  have R1 : Hid (Row (w.alloc (.cells (m.cells p) 31)) w.heap.size 31 (m.cells p).toList) := hid (Row.new _ _ _)
  have a30 : (w.alloc (.cells (m.cells p) 31)).cell? ⟨w.heap.size, 30, none⟩ = some (.slice p.A m.es.length p.cA) := R1.out.cell 30
  by_cases h : m.es = []
  · have HD : Hid (decide (emptyS m 76) = true) := hid (decide_eq_true h)
    have hl : m.es.length = 0 := by rw [h]; rfl
    rw [HD.out]
    rw [hl] at a30
    clear HD h
    go_enter Tryd.func22, Tryd.ntmps22
    go_wp2_with fail
    go_ret
    exact ⟨rfl, HB0.out⟩
  · have HD : Hid (decide (emptyS m 76) = false) := hid (decide_eq_false h)
    have hl : ¬ (m.es.length = 0) := fun e => h (List.eq_nil_of_length_eq_zero e)
    have hl2 : ¬ ((m.es.length : Int) = 0) := by omega
    rw [HD.out]
    clear HD h
    go_enter Tryd.func22, Tryd.ntmps22
    go_wp2_with fail
    go_ret
    exact ⟨by simp [hl], HB0.out⟩
set_option maxHeartbeats 4000000 in
theorem empty_73 (m : Ms) (p : Pl) (w : World) : Calls Tryd.prog 22 #[.agg (m.cells p), .int .i32 73] w (VE w (.bool (decide (emptyS m 73)))) := by
  have HB0 : Hid (Below w.heap.size w (w.alloc (.cells (m.cells p) 31))) := hid ((Below.refl _ _).alloc (Nat.le_refl _) _)
  have R1 : Hid (Row (w.alloc (.cells (m.cells p) 31)) w.heap.size 31 (m.cells p).toList) := hid (Row.new _ _ _)
  have a31 : (w.alloc (.cells (m.cells p) 31)).cell? ⟨w.heap.size, 31, none⟩ = some (.slice p.B m.xs.length p.cB) := R1.out.cell 31
  by_cases h : m.xs = []
  · have HD : Hid (decide (emptyS m 73) = true) := hid (decide_eq_true h)
    have hl : m.xs.length = 0 := by rw [h]; rfl
    rw [HD.out]
    rw [hl] at a31
    clear HD h
    go_enter Tryd.func22, Tryd.ntmps22
    go_wp2_with fail
    go_ret
    exact ⟨rfl, HB0.out⟩
  · have HD : Hid (decide (emptyS m 73) = false) := hid (decide_eq_false h)
    have hl : ¬ (m.xs.length = 0) := fun e => h (List.eq_nil_of_length_eq_zero e)
    have hl2 : ¬ ((m.xs.length : Int) = 0) := by omega
    rw [HD.out]
    clear HD h
    go_enter Tryd.func22, Tryd.ntmps22
    go_wp2_with fail
    go_ret
    exact ⟨by simp [hl], HB0.out⟩
set_option maxHeartbeats 4000000 in
theorem empty_66 (m : Ms) (p : Pl) (w : World) : Calls Tryd.prog 22 #[.agg (m.cells p), .int .i32 66] w (VE w (.bool (decide (emptyS m 66)))) := by
  have HB0 : Hid (Below w.heap.size w (w.alloc (.cells (m.cells p) 31))) := hid ((Below.refl _ _).alloc (Nat.le_refl _) _)
  have R1 : Hid (Row (w.alloc (.cells (m.cells p) 31)) w.heap.size 31 (m.cells p).toList) := hid (Row.new _ _ _)
  have a32 : (w.alloc (.cells (m.cells p) 31)).cell? ⟨w.heap.size, 32, none⟩ = some (.string m.body) := R1.out.cell 32
  have HD : Hid (decide (emptyS m 66) = decide (m.body = ⟨#[]⟩)) := hid rfl
  rw [HD.out]
  clear HD
  go_enter Tryd.func22, Tryd.ntmps22
  go_wp2_with fail
  go_ret
  exact ⟨by rw [← ba_empty]; rfl, HB0.out⟩
set_option maxHeartbeats 4000000 in
theorem empty_num (m : Ms) (p : Pl) (w : World) (c : Nat) (hc : c ∈ sgN) : Calls Tryd.prog 22 #[.agg (m.cells p), .int .i32 (c : Int)] w (VE w (.bool (decide (emptyS m c)))) := by
  have HB0 : Hid (Below w.heap.size w (w.alloc (.cells (m.cells p) 31))) := hid ((Below.refl _ _).alloc (Nat.le_refl _) _)
  have R1 : Hid (Row (w.alloc (.cells (m.cells p) 31)) w.heap.size 31 (m.cells p).toList) := hid (Row.new _ _ _)
  have HD : Hid (decide (emptyS m c) = decide (numS m c = 0)) := hid (by
    simp only [sgN, List.mem_cons, List.not_mem_nil, or_false] at hc
    rcases hc with rfl | rfl | rfl | rfl | rfl | rfl | rfl | rfl | rfl | rfl <;> rfl)
  have HN := hid (fun W => number_any m p c hc W)
  have HZS := hid mssize
  rw [HD.out]
  clear HD
  generalize numS m c = N at *
  simp only [sgN, List.mem_cons, List.not_mem_nil, or_false] at hc
  rcases hc with rfl | rfl | rfl | rfl | rfl | rfl | rfl | rfl | rfl | rfl
  all_goals
    go_enter Tryd.func22, Tryd.ntmps22
    go_wp2_with (first
      | ((with_reducible show wpList _ _ _ ({ dst := some 41, op := _, type := _, pos := _, after := _, guard := _ } :: _) _ _); refine wpList_load_row rfl 31 (.tmp 2) rfl w.heap.size rfl 31 (m.cells p) (0, 0) _ (Row.arr R1.out) Tryd.underlying31 rfl HZS.out ?_)
      | (go_at_call 49; refine (HN.out _).mono ?_; rintro e w1 ⟨rfl, hb1⟩))
    go_ret
    exact ⟨by first | rfl | simp, HB0.out.trans (hb1.mono HB0.out.size)⟩
theorem empty_any (m : Ms) (p : Pl) (w : World) (hs : m.sums.length = 6) (c : Nat) (hc : c ∈ sgA) :
    Calls Tryd.prog 22 #[.agg (m.cells p), .int .i32 (c : Int)] w (VE w (.bool (decide (emptyS m c)))) := by
  by_cases hn : c ∈ sgN
  · exact empty_num m p w c hn
  simp only [sgA, sgN, List.mem_cons, List.not_mem_nil, or_false] at hc hn
  have h7 : c = 67 ∨ c = 83 ∨ c = 69 ∨ c = 76 ∨ c = 73 ∨ c = 66 := by omega
  clear hc hn
  rcases h7 with rfl | rfl | rfl | rfl | rfl | rfl
  · exact empty_67 m p w
  · exact empty_83 m p w hs
  · exact empty_69 m p w
  · exact empty_76 m p w
  · exact empty_73 m p w
  · exact empty_66 m p w
end Go.Proofs.YtcildaeiogdfdaaDoor
