/-
  The document's Right.
-/
import Derived.Test.YteahbalcielhpaaGreatDoorZ15
import Derived.Test.YteahbalcielhpaaGreatDoorZ14
import Derived.BigQuiet
import Derived.Deep.QuietTactic
namespace Go.Proofs.YteahbalcielhpaaGreatDoor
open Go.RowKit
set_option maxRecDepth 10000

theorem belowN {B : Nat} {w w' : World} (h : Below B w w') (n : Nat) : Below B w (w'.drewN n) := ⟨h.os, h.tape, h.output, h.size, h.block⟩
theorem kept_any (m : Ms) (p : Pl) (w : World) (h1 : 1 ≤ m.kind) (h2 : m.kind ≤ 16) : Calls Tryz.prog 40 #[.agg (m.cells p)] w (VE w (.agg ((keptM m).cells (keptP m p)))) := by
  have : m.kind = 1 ∨ m.kind = 2 ∨ m.kind = 3 ∨ m.kind = 4 ∨ m.kind = 5 ∨ m.kind = 6 ∨ m.kind = 7 ∨ m.kind = 8 ∨ m.kind = 9 ∨ m.kind = 10 ∨ m.kind = 11 ∨ m.kind = 12 ∨ m.kind = 13 ∨ m.kind = 14 ∨ m.kind = 15 ∨ m.kind = 16 := by omega
  rcases this with h | h | h | h | h | h | h | h | h | h | h | h | h | h | h | h
  · exact kept_1 m p w h
  · exact kept_2 m p w h
  · exact kept_3 m p w h
  · exact kept_4 m p w h
  · exact kept_5 m p w h
  · exact kept_6 m p w h
  · exact kept_7 m p w h
  · exact kept_8 m p w h
  · exact kept_9 m p w h
  · exact kept_10 m p w h
  · exact kept_11 m p w h
  · exact kept_12 m p w h
  · exact kept_13 m p w h
  · exact kept_14 m p w h
  · exact kept_15 m p w h
  · exact kept_16 m p w h
theorem keptP_ok {w : World} {B : Nat} {m : Ms} {p : Pl} (h : PlOk w B m p) : PlOk w B (keptM m) (keptP m p) := by
  obtain ⟨a, b, la, lb, ca, cb⟩ := h
  refine ⟨?_, ?_, ?_, ?_, ?_, ?_⟩
  · show Rd w B (if kEs m.kind = true then p.A else none) (rws _ (if kEs m.kind = true then m.es else []))
    split
    · exact a
    · exact Rd.nil
  · show Rd w B (if kLog m.kind = true then p.B else none) (rws _ (if kLog m.kind = true then m.xs else []))
    split
    · exact b
    · exact Rd.nil
  · show (if kEs m.kind = true then m.es else []).length ≤ _
    split
    · exact la
    · simp
  · show (if kLog m.kind = true then m.xs else []).length ≤ _
    split
    · exact lb
    · simp
  · show (if kEs m.kind = true then m.es else []).length ≤ (if kEs m.kind = true then p.cA else 0)
    split
    · exact ca
    · simp
  · show (if kLog m.kind = true then m.xs else []).length ≤ (if kLog m.kind = true then p.cB else 0)
    split
    · exact cb
    · simp
theorem kept_sums {m : Ms} (h : m.sums.length = 6) : (keptM m).sums.length = 6 := by
  show (if kSz m.kind = true then m.sums else z6).length = 6
  split
  · exact h
  · rfl
set_option maxHeartbeats 8000000 in
theorem rightm_any (m : Ms) (p : Pl) (B : Nat) (w : World) (hm : PlOk w B m p) (hB : B ≤ w.heap.size) (hf : m.fits) :
    Calls Tryz.prog 24 #[.agg (m.cells p)] w (VE w (.bool (decide (rightM m)))) := by
  have HF := hid (fun n W => fits17_any n W)
  have HZS := hid mssize
  have HZE := hid esize
  have HZI := hid isize
  have HE : Hid (∀ e ∈ m.es, ∀ W, Calls Tryz.prog 42 #[e.val] W (VE W (.bool (decide (Rt e))))) := hid fun e _ W => rright9_any e W
  have HEE := hid (fun W => rright9_any m.entry W)
  have HI : Hid (∀ x ∈ m.xs, ∀ W, Calls Tryz.prog 43 #[x.val] W (VE W (.bool (decide (itemR x))))) := hid fun x hx W => item_any x (hf.2.2.2.2.2.2 x hx) W
  have HS : Hid (∀ W, Below w.heap.size w W → Calls Tryz.prog 39 #[.agg (m.cells p), .agg ((keptM m).cells (keptP m p))] W (VE W (.bool (decide (m = keptM m))))) := hid fun W hW =>
    same_any m (keptM m) p (keptP m p) B W ⟨hm.a.below hW hB, hm.b.below hW hB, hm.la, hm.lb, hm.ca, hm.cb⟩ (keptP_ok ⟨hm.a.below hW hB, hm.b.below hW hB, hm.la, hm.lb, hm.ca, hm.cb⟩) (Nat.le_trans hB hW.size) hf.2.2.2.1.1 (kept_sums hf.2.2.2.1.1)
  have HXA : Hid (∀ W, Below w.heap.size w W → Rd W B p.B (rws (fun x : It => x.cells.toList) m.xs)) := hid fun W hW => hm.b.below hW hB
  have HEA : Hid (∀ W, Below w.heap.size w W → Rd W B p.A (rws (fun x : En => x.cells.toList) m.es)) := hid fun W hW => hm.a.below hW hB
  have hca := hm.ca
  have hcb := hm.cb
  have hla := hm.la
  have hlb := hm.lb
  have HB0 : Hid (Below w.heap.size w (w.alloc (.cells (m.cells p) 45))) := hid ((Below.refl _ _).alloc (Nat.le_refl _) _)
  have R1 : Hid (Row (w.alloc (.cells (m.cells p) 45)) w.heap.size 45 (m.cells p).toList) := hid (Row.new _ _ _)
  have a0 : (w.alloc (.cells (m.cells p) 45)).cell? ⟨w.heap.size, 0, none⟩ = some (.int .i64 m.kind) := R1.out.cell 0
  have a1 : (w.alloc (.cells (m.cells p) 45)).cell? ⟨w.heap.size, 1, none⟩ = some (.int .i64 m.frm) := R1.out.cell 1
  have a9 : (w.alloc (.cells (m.cells p) 45)).cell? ⟨w.heap.size, 9, none⟩ = some (.int .i64 m.oper) := R1.out.cell 9
  clear hm
  by_cases h0 : m.kind < 1
  · have d0 : decide (m.kind < 1) = true := decide_eq_true h0
    have HD : Hid (decide (rightM m) = false) := hid (decide_eq_false (fun h => by have := h.1.1.1; omega))
    clear h0
    go_enter Tryz.func24, Tryz.ntmps24
    go_wp2_with fail
    go_quiet (fail)
    go_wp2_with fail
    go_ret
    exact ⟨by rw [HD.out]; rfl, belowN HB0.out _⟩
  have d0 : decide (m.kind < 1) = false := decide_eq_false h0
  by_cases h1 : 16 < m.kind
  · have d1 : decide (16 < m.kind) = true := decide_eq_true h1
    have HD : Hid (decide (rightM m) = false) := hid (decide_eq_false (fun h => by have := h.1.1.2; omega))
    clear h1
    go_enter Tryz.func24, Tryz.ntmps24
    go_wp2_with fail
    go_quiet (fail)
    go_wp2_with fail
    go_ret
    exact ⟨by rw [HD.out]; rfl, belowN HB0.out _⟩
  have d1 : decide (16 < m.kind) = false := decide_eq_false h1
  by_cases h2 : m.frm < 0
  · have d2 : decide (m.frm < 0) = true := decide_eq_true h2
    have HD : Hid (decide (rightM m) = false) := hid (decide_eq_false (fun h => by have := h.1.2.1.1; omega))
    clear h2
    go_enter Tryz.func24, Tryz.ntmps24
    go_wp2_with fail
    go_quiet (fail)
    go_wp2_with fail
    go_ret
    exact ⟨by rw [HD.out]; rfl, belowN HB0.out _⟩
  have d2 : decide (m.frm < 0) = false := decide_eq_false h2
  by_cases h3 : 255 < m.frm
  · have d3 : decide (255 < m.frm) = true := decide_eq_true h3
    have HD : Hid (decide (rightM m) = false) := hid (decide_eq_false (fun h => by have := h.1.2.1.2; omega))
    clear h3
    go_enter Tryz.func24, Tryz.ntmps24
    go_wp2_with fail
    go_quiet (fail)
    go_wp2_with fail
    go_ret
    exact ⟨by rw [HD.out]; rfl, belowN HB0.out _⟩
  have d3 : decide (255 < m.frm) = false := decide_eq_false h3
  by_cases h4 : m.oper < 0
  · have d4 : decide (m.oper < 0) = true := decide_eq_true h4
    have HD : Hid (decide (rightM m) = false) := hid (decide_eq_false (fun h => by have := h.1.2.2.1.1; omega))
    clear h4
    go_enter Tryz.func24, Tryz.ntmps24
    go_wp2_with fail
    go_quiet (fail)
    go_wp2_with fail
    go_ret
    exact ⟨by rw [HD.out]; rfl, belowN HB0.out _⟩
  have d4 : decide (m.oper < 0) = false := decide_eq_false h4
  by_cases h5 : 255 < m.oper
  · have d5 : decide (255 < m.oper) = true := decide_eq_true h5
    have HD : Hid (decide (rightM m) = false) := hid (decide_eq_false (fun h => by have := h.1.2.2.1.2; omega))
    clear h5
    go_enter Tryz.func24, Tryz.ntmps24
    go_wp2_with fail
    go_quiet (fail)
    go_wp2_with fail
    go_ret
    exact ⟨by rw [HD.out]; rfl, belowN HB0.out _⟩
  have d5 : decide (255 < m.oper) = false := decide_eq_false h5
  have HK := hid (fun W => kept_any m p W (by omega) (by omega))
  have HP : Hid ((1 ≤ m.kind ∧ m.kind ≤ 16) ∧ (0 ≤ m.frm ∧ m.frm ≤ 255) ∧ (0 ≤ m.oper ∧ m.oper ≤ 255)) := hid (by omega)
  clear h0 h1 h2 h3 h4 h5
  have A0 : Hid (∀ W, Row W w.heap.size 45 (m.cells p).toList ∧ Below w.heap.size w W → W.cell? ⟨w.heap.size, 0, none⟩ = some (.int .i64 m.kind)) := hid fun W h => h.1.cell 0
  have A1 : Hid (∀ W, Row W w.heap.size 45 (m.cells p).toList ∧ Below w.heap.size w W → W.cell? ⟨w.heap.size, 1, none⟩ = some (.int .i64 m.frm)) := hid fun W h => h.1.cell 1
  have A9 : Hid (∀ W, Row W w.heap.size 45 (m.cells p).toList ∧ Below w.heap.size w W → W.cell? ⟨w.heap.size, 9, none⟩ = some (.int .i64 m.oper)) := hid fun W h => h.1.cell 9
  have D0 := hid d0
  have D1 := hid d1
  have D2 := hid d2
  have D3 := hid d3
  have D4 := hid d4
  have D5 := hid d5
  clear d0 d1 d2 d3 d4 d5 a0 a1 a9
  by_cases hkm : m = keptM m
  · have HKM := hid hkm
    rw [show decide (m = keptM m) = true from decide_eq_true hkm] at HS
    clear hkm
    go_enter Tryz.func24, Tryz.ntmps24
    go_wp2_with fail
    refine wp_region_held_drew (S := (fun W => Row W w.heap.size 45 (m.cells p).toList ∧ Below w.heap.size w W)) (by kernel_rfl) (⟨R1.out.drew, HB0.out.drew⟩) (fun hH => ?_)
    refine tk_ (i := 0) (v := .pointer (some ⟨w.heap.size, 0, none⟩)) rfl (Or.inl ⟨by kernel_rfl, fun w' _ => by kernel_rfl⟩) hH ?_
    simp only [Act.put, la1, la3, la4, la5, la6]
    refine tk_ (i := 1) (v := .int .i64 m.kind) rfl (Or.inl ⟨by rfl, fun w' hw' => by have h := A0.out w' hw'; go_simp⟩) hH ?_
    simp only [Act.put, la1, la2, la3, la4, la5, la6]
    refine tk_ (i := 2) (v := .bool false) rfl (Or.inl ⟨by rfl, fun w' hw' => by have h := D0.out; go_simp⟩) hH ?_
    simp only [Act.put, la1, la2, la3, la4, la5, la6]
    refine tk_ (i := 3) (v := .bool false) rfl (Or.inl ⟨by kernel_rfl, fun w' _ => by kernel_rfl⟩) hH ?_
    simp only [Act.put, la1, la2, la3, la4, la5, la6]
    refine tk_ (i := 4) (v := .pointer (some ⟨w.heap.size, 0, none⟩)) rfl (Or.inl ⟨by kernel_rfl, fun w' _ => by kernel_rfl⟩) hH ?_
    simp only [Act.put, la1, la2, la3, la4, la5, la6]
    refine tk_ (i := 5) (v := .int .i64 m.kind) rfl (Or.inl ⟨by kernel_rfl, fun w' hw' => by have h := A0.out w' hw'; go_simp⟩) hH ?_
    simp only [Act.put, la1, la2, la3, la4, la5, la6]
    refine tk_ (i := 6) (v := .bool false) rfl (Or.inl ⟨by kernel_rfl, fun w' hw' => by have h := D1.out; go_simp⟩) hH ?_
    simp only [Act.put, la1, la2, la3, la4, la5, la6]
    refine tk_ (i := 7) (v := .bool false) rfl (Or.inl ⟨by kernel_rfl, fun w' _ => by kernel_rfl⟩) hH ?_
    simp only [Act.put, la1, la2, la3, la4, la5, la6]
    refine tk_ (i := 8) (v := .bool false) rfl (Or.inl ⟨by kernel_rfl, fun w' _ => by kernel_rfl⟩) hH ?_
    simp only [Act.put, la1, la2, la3, la4, la5, la6]
    refine tk_ (i := 9) (v := .pointer (some ⟨w.heap.size, 1, none⟩)) rfl (Or.inl ⟨by kernel_rfl, fun w' _ => by kernel_rfl⟩) hH ?_
    simp only [Act.put, la1, la2, la3, la4, la5, la6]
    refine tk_ (i := 10) (v := .int .i64 m.frm) rfl (Or.inl ⟨by kernel_rfl, fun w' hw' => by have h := A1.out w' hw'; go_simp⟩) hH ?_
    simp only [Act.put, la1, la2, la3, la4, la5, la6]
    refine tk_ (i := 11) (v := .bool false) rfl (Or.inl ⟨by kernel_rfl, fun w' hw' => by have h := D2.out; go_simp⟩) hH ?_
    simp only [Act.put, la1, la2, la3, la4, la5, la6]
    refine tk_ (i := 12) (v := .bool false) rfl (Or.inl ⟨by kernel_rfl, fun w' _ => by kernel_rfl⟩) hH ?_
    simp only [Act.put, la1, la2, la3, la4, la5, la6]
    refine tk_ (i := 13) (v := .bool false) rfl (Or.inl ⟨by kernel_rfl, fun w' _ => by kernel_rfl⟩) hH ?_
    simp only [Act.put, la1, la2, la3, la4, la5, la6]
    refine tk_ (i := 14) (v := .pointer (some ⟨w.heap.size, 1, none⟩)) rfl (Or.inl ⟨by kernel_rfl, fun w' _ => by kernel_rfl⟩) hH ?_
    simp only [Act.put, la1, la2, la3, la4, la5, la6]
    refine tk_ (i := 15) (v := .int .i64 m.frm) rfl (Or.inl ⟨by kernel_rfl, fun w' hw' => by have h := A1.out w' hw'; go_simp⟩) hH ?_
    simp only [Act.put, la1, la2, la3, la4, la5, la6]
    refine tk_ (i := 16) (v := .bool false) rfl (Or.inl ⟨by kernel_rfl, fun w' hw' => by have h := D3.out; go_simp⟩) hH ?_
    simp only [Act.put, la1, la2, la3, la4, la5, la6]
    refine tk_ (i := 17) (v := .bool false) rfl (Or.inl ⟨by kernel_rfl, fun w' _ => by kernel_rfl⟩) hH ?_
    simp only [Act.put, la1, la2, la3, la4, la5, la6]
    refine tk_ (i := 18) (v := .bool false) rfl (Or.inl ⟨by kernel_rfl, fun w' _ => by kernel_rfl⟩) hH ?_
    simp only [Act.put, la1, la2, la3, la4, la5, la6]
    refine tk_ (i := 19) (v := .pointer (some ⟨w.heap.size, 9, none⟩)) rfl (Or.inl ⟨by kernel_rfl, fun w' _ => by kernel_rfl⟩) hH ?_
    simp only [Act.put, la1, la2, la3, la4, la5, la6]
    refine tk_ (i := 20) (v := .int .i64 m.oper) rfl (Or.inl ⟨by kernel_rfl, fun w' hw' => by have h := A9.out w' hw'; go_simp⟩) hH ?_
    simp only [Act.put, la1, la2, la3, la4, la5, la6]
    refine tk_ (i := 21) (v := .bool false) rfl (Or.inl ⟨by kernel_rfl, fun w' hw' => by have h := D4.out; go_simp⟩) hH ?_
    simp only [Act.put, la1, la2, la3, la4, la5, la6]
    refine tk_ (i := 22) (v := .bool false) rfl (Or.inl ⟨by kernel_rfl, fun w' _ => by kernel_rfl⟩) hH ?_
    simp only [Act.put, la1, la2, la3, la4, la5, la6]
    refine tk_ (i := 23) (v := .bool false) rfl (Or.inl ⟨by kernel_rfl, fun w' _ => by kernel_rfl⟩) hH ?_
    simp only [Act.put, la1, la2, la3, la4, la5, la6]
    refine tk_ (i := 24) (v := .pointer (some ⟨w.heap.size, 9, none⟩)) rfl (Or.inl ⟨by kernel_rfl, fun w' _ => by kernel_rfl⟩) hH ?_
    simp only [Act.put, la1, la2, la3, la4, la5, la6]
    refine tk_ (i := 25) (v := .int .i64 m.oper) rfl (Or.inl ⟨by kernel_rfl, fun w' hw' => by have h := A9.out w' hw'; go_simp⟩) hH ?_
    simp only [Act.put, la1, la2, la3, la4, la5, la6]
    refine tk_ (i := 26) (v := .bool false) rfl (Or.inl ⟨by kernel_rfl, fun w' hw' => by have h := D5.out; go_simp⟩) hH ?_
    simp only [Act.put, la1, la2, la3, la4, la5, la6]
    refine tk_ (i := 27) (v := .bool false) rfl (Or.inl ⟨by kernel_rfl, fun w' _ => by kernel_rfl⟩) hH ?_
    simp only [Act.put, la1, la2, la3, la4, la5, la6]
    refine tk_ (i := 28) (v := .bool false) rfl (Or.inl ⟨by kernel_rfl, fun w' _ => by kernel_rfl⟩) hH ?_
    simp only [Act.put, la1, la2, la3, la4, la5, la6]
    refine tk_ (i := 29) (v := .agg (m.cells p)) rfl (yieldsIf_load_mid (by kernel_rfl) 45 (.tmp 1) rfl (w.heap.size) (0) rfl (Array.toList (m.cells p)) _ (fun W hW => Row.range hW.1) Tryz.underlying45 rfl (by exact HZS.out)) hH ?_
    simp only [Act.put, la1, la2, la3, la4, la5, la6]
    refine tk_ (i := 30) (v := .agg (m.cells p)) rfl (yieldsIf_load_mid (by kernel_rfl) 45 (.tmp 1) rfl (w.heap.size) (0) rfl (Array.toList (m.cells p)) _ (fun W hW => Row.range hW.1) Tryz.underlying45 rfl (by exact HZS.out)) hH ?_
    simp only [Act.put, la1, la2, la3, la4, la5, la6]
    refine rd1 (i := 31) (by kernel_rfl) rfl (fun K hK => ?_)
    rw [if_pos (by kernel_rfl)]
    go_simp
    go_at_call 40
    refine (HK.out _).mono ?_
    rintro e w1 ⟨rfl, hb1⟩
    go_wp2_with fail
    refine hK.out _ _ (⟨hH.1.below hb1 hH.1.lt, hH.2.trans (hb1.mono hH.2.size)⟩) (fun hH => ?_)
    clear hK K
    try simp only [Act.put, la1, la2, la3, la4, la5, la6]
    refine rd1 (i := 32) (by kernel_rfl) rfl (fun K hK => ?_)
    rw [if_pos (by kernel_rfl)]
    go_simp
    go_at_call 39
    refine (HS.out _ hH.2).mono ?_
    rintro e w2 ⟨rfl, hb1⟩
    go_wp2_with fail
    refine hK.out _ _ (⟨hH.1.below hb1 hH.1.lt, hH.2.trans (hb1.mono hH.2.size)⟩) (fun hH => ?_)
    clear hK K
    try simp only [Act.put, la1, la2, la3, la4, la5, la6]
    refine tk_ (i := 33) (v := .bool false) rfl (Or.inl ⟨by kernel_rfl, fun w' _ => by kernel_rfl⟩) hH ?_
    simp only [Act.put, la1, la2, la3, la4, la5, la6]
    refine tk_ (i := 34) (v := .bool false) rfl (Or.inl ⟨by kernel_rfl, fun w' _ => by kernel_rfl⟩) hH ?_
    simp only [Act.put, la1, la2, la3, la4, la5, la6]
    refine wpAnyH_done (by kernel_rfl) ?_ _
    try simp only [Act.put, la1, la2, la3, la4, la5, la6]
    obtain ⟨R, HB⟩ : Hid (Row w2 w.heap.size 45 (m.cells p).toList) ∧ Hid (Below w.heap.size w w2) := ⟨hid hH.1, hid hH.2⟩
    clear hH A0 A1 A9 D0 D1 D2 D3 D4 D5 HB0 R1 HS HK
    have c2 : w2.cell? ⟨w.heap.size, 2, none⟩ = some (.int .i64 m.view) := R.out.cell 2
    have c3 : w2.cell? ⟨w.heap.size, 3, none⟩ = some (.int .i64 m.lv) := R.out.cell 3
    have c4 : w2.cell? ⟨w.heap.size, 4, none⟩ = some (.int .i64 m.opn) := R.out.cell 4
    have c5 : w2.cell? ⟨w.heap.size, 5, none⟩ = some (.int .i64 m.commit) := R.out.cell 5
    have c6 : w2.cell? ⟨w.heap.size, 6, none⟩ = some (.int .i64 m.client) := R.out.cell 6
    have c7 : w2.cell? ⟨w.heap.size, 7, none⟩ = some (.int .i64 m.session) := R.out.cell 7
    have c8 : w2.cell? ⟨w.heap.size, 8, none⟩ = some (.int .i64 m.request) := R.out.cell 8
    have c10 : w2.cell? ⟨w.heap.size, 10, none⟩ = some (.int .i64 m.index) := R.out.cell 10
    have c11 : w2.cell? ⟨w.heap.size, 11, none⟩ = some (.int .i64 m.size) := R.out.cell 11
    have c12 : w2.cell? ⟨w.heap.size, 12, none⟩ = some (.int .i64 m.check.opn) := R.out.cell 12
    have c13 : w2.cell? ⟨w.heap.size, 13, none⟩ = some (.int .i64 m.check.view) := R.out.cell 13
    by_cases f2 : Fi m.view
    case neg =>
      have g2 : decide (Fi m.view) = false := decide_eq_false f2
      have HD : Hid (decide (rightM m) = false) := hid (decide_eq_false (fun h => f2 (h.2.1 m.view (by simp [numsM]))))
      clear f2
      go_wp2_with (go_at_call 41; refine (HF.out _ _).mono ?_; rintro e w' ⟨rfl, rfl⟩)
      go_ret
      exact ⟨by rw [HD.out]; rfl, HB.out⟩
    have g2 : decide (Fi m.view) = true := decide_eq_true f2
    have F2 := hid f2
    clear f2
    by_cases f3 : Fi m.lv
    case neg =>
      have g3 : decide (Fi m.lv) = false := decide_eq_false f3
      have HD : Hid (decide (rightM m) = false) := hid (decide_eq_false (fun h => f3 (h.2.1 m.lv (by simp [numsM]))))
      clear f3
      go_wp2_with (go_at_call 41; refine (HF.out _ _).mono ?_; rintro e w' ⟨rfl, rfl⟩)
      go_ret
      exact ⟨by rw [HD.out]; rfl, HB.out⟩
    have g3 : decide (Fi m.lv) = true := decide_eq_true f3
    have F3 := hid f3
    clear f3
    by_cases f4 : Fi m.opn
    case neg =>
      have g4 : decide (Fi m.opn) = false := decide_eq_false f4
      have HD : Hid (decide (rightM m) = false) := hid (decide_eq_false (fun h => f4 (h.2.1 m.opn (by simp [numsM]))))
      clear f4
      go_wp2_with (go_at_call 41; refine (HF.out _ _).mono ?_; rintro e w' ⟨rfl, rfl⟩)
      go_ret
      exact ⟨by rw [HD.out]; rfl, HB.out⟩
    have g4 : decide (Fi m.opn) = true := decide_eq_true f4
    have F4 := hid f4
    clear f4
    by_cases f5 : Fi m.commit
    case neg =>
      have g5 : decide (Fi m.commit) = false := decide_eq_false f5
      have HD : Hid (decide (rightM m) = false) := hid (decide_eq_false (fun h => f5 (h.2.1 m.commit (by simp [numsM]))))
      clear f5
      go_wp2_with (go_at_call 41; refine (HF.out _ _).mono ?_; rintro e w' ⟨rfl, rfl⟩)
      go_ret
      exact ⟨by rw [HD.out]; rfl, HB.out⟩
    have g5 : decide (Fi m.commit) = true := decide_eq_true f5
    have F5 := hid f5
    clear f5
    by_cases f6 : Fi m.client
    case neg =>
      have g6 : decide (Fi m.client) = false := decide_eq_false f6
      have HD : Hid (decide (rightM m) = false) := hid (decide_eq_false (fun h => f6 (h.2.1 m.client (by simp [numsM]))))
      clear f6
      go_wp2_with (go_at_call 41; refine (HF.out _ _).mono ?_; rintro e w' ⟨rfl, rfl⟩)
      go_ret
      exact ⟨by rw [HD.out]; rfl, HB.out⟩
    have g6 : decide (Fi m.client) = true := decide_eq_true f6
    have F6 := hid f6
    clear f6
    by_cases f7 : Fi m.session
    case neg =>
      have g7 : decide (Fi m.session) = false := decide_eq_false f7
      have HD : Hid (decide (rightM m) = false) := hid (decide_eq_false (fun h => f7 (h.2.1 m.session (by simp [numsM]))))
      clear f7
      go_wp2_with (go_at_call 41; refine (HF.out _ _).mono ?_; rintro e w' ⟨rfl, rfl⟩)
      go_ret
      exact ⟨by rw [HD.out]; rfl, HB.out⟩
    have g7 : decide (Fi m.session) = true := decide_eq_true f7
    have F7 := hid f7
    clear f7
    by_cases f8 : Fi m.request
    case neg =>
      have g8 : decide (Fi m.request) = false := decide_eq_false f8
      have HD : Hid (decide (rightM m) = false) := hid (decide_eq_false (fun h => f8 (h.2.1 m.request (by simp [numsM]))))
      clear f8
      go_wp2_with (go_at_call 41; refine (HF.out _ _).mono ?_; rintro e w' ⟨rfl, rfl⟩)
      go_ret
      exact ⟨by rw [HD.out]; rfl, HB.out⟩
    have g8 : decide (Fi m.request) = true := decide_eq_true f8
    have F8 := hid f8
    clear f8
    by_cases f10 : Fi m.index
    case neg =>
      have g10 : decide (Fi m.index) = false := decide_eq_false f10
      have HD : Hid (decide (rightM m) = false) := hid (decide_eq_false (fun h => f10 (h.2.1 m.index (by simp [numsM]))))
      clear f10
      go_wp2_with (go_at_call 41; refine (HF.out _ _).mono ?_; rintro e w' ⟨rfl, rfl⟩)
      go_ret
      exact ⟨by rw [HD.out]; rfl, HB.out⟩
    have g10 : decide (Fi m.index) = true := decide_eq_true f10
    have F10 := hid f10
    clear f10
    by_cases f11 : Fi m.size
    case neg =>
      have g11 : decide (Fi m.size) = false := decide_eq_false f11
      have HD : Hid (decide (rightM m) = false) := hid (decide_eq_false (fun h => f11 (h.2.1 m.size (by simp [numsM]))))
      clear f11
      go_wp2_with (go_at_call 41; refine (HF.out _ _).mono ?_; rintro e w' ⟨rfl, rfl⟩)
      go_ret
      exact ⟨by rw [HD.out]; rfl, HB.out⟩
    have g11 : decide (Fi m.size) = true := decide_eq_true f11
    have F11 := hid f11
    clear f11
    by_cases f12 : Fi m.check.opn
    case neg =>
      have g12 : decide (Fi m.check.opn) = false := decide_eq_false f12
      have HD : Hid (decide (rightM m) = false) := hid (decide_eq_false (fun h => f12 (h.2.1 m.check.opn (by simp [numsM]))))
      clear f12
      go_wp2_with (go_at_call 41; refine (HF.out _ _).mono ?_; rintro e w' ⟨rfl, rfl⟩)
      go_ret
      exact ⟨by rw [HD.out]; rfl, HB.out⟩
    have g12 : decide (Fi m.check.opn) = true := decide_eq_true f12
    have F12 := hid f12
    clear f12
    by_cases f13 : Fi m.check.view
    case neg =>
      have g13 : decide (Fi m.check.view) = false := decide_eq_false f13
      have HD : Hid (decide (rightM m) = false) := hid (decide_eq_false (fun h => f13 (h.2.1 m.check.view (by simp [numsM]))))
      clear f13
      go_wp2_with (go_at_call 41; refine (HF.out _ _).mono ?_; rintro e w' ⟨rfl, rfl⟩)
      go_ret
      exact ⟨by rw [HD.out]; rfl, HB.out⟩
    have g13 : decide (Fi m.check.view) = true := decide_eq_true f13
    have F13 := hid f13
    clear f13
    have HFI : Hid (∀ n ∈ numsM m, Fi n) := hid (by
      intro n hn
      simp only [numsM, List.mem_cons, List.not_mem_nil, or_false] at hn
      rcases hn with rfl | rfl | rfl | rfl | rfl | rfl | rfl | rfl | rfl | rfl | rfl
      · exact F2.out
      · exact F3.out
      · exact F4.out
      · exact F5.out
      · exact F6.out
      · exact F7.out
      · exact F8.out
      · exact F10.out
      · exact F11.out
      · exact F12.out
      · exact F13.out)
    clear F2 F3 F4 F5 F6 F7 F8 F10 F11 F12 F13
    obtain ⟨bl, hbl⟩ : ∃ b, decide (¬ (m.body.size ≤ 320 ∧ (m.kind ≠ 15 → m.body.size ≤ 200) ∧ m.es.length ≤ 8 ∧ (m.kind = 7 → m.xs.length = 8))) = b := ⟨_, rfl⟩
    have HBL := hid hbl
    clear hbl
    go_upto_region 5 with (go_at_call 41; refine (HF.out _ _).mono ?_; rintro e w' ⟨rfl, rfl⟩)
    clear c2 g2 c3 g3 c4 g4 c5 g5 c6 g6 c7 g7 c8 g8 c10 g10 c11 g11 c12 g12 c13 g13
    go_cut [137] from 106 to 137 (fun b wx => b = .bool bl ∧ ∃ W1 : World, W1 = wx ∧ Hid (Row W1 w.heap.size 45 (m.cells p).toList) ∧ Hid (Below w.heap.size w W1))
    case first =>
      have c0 : w2.cell? ⟨w.heap.size, 0, none⟩ = some (.int .i64 m.kind) := R.out.cell 0
      have c32 : w2.cell? ⟨w.heap.size, 32, none⟩ = some (.string m.body) := R.out.cell 32
      have c30 : w2.cell? ⟨w.heap.size, 30, none⟩ = some (.slice p.A m.es.length p.cA) := R.out.cell 30
      have c31 : w2.cell? ⟨w.heap.size, 31, none⟩ = some (.slice p.B m.xs.length p.cB) := R.out.cell 31
      by_cases l1 : m.body.size ≤ 320
      case neg =>
        have HBV : Hid (bl = true) := hid (by rw [← HBL.out]; exact decide_eq_true (fun h => l1 h.1))
        have i1 : (320 : Int) < (m.body.size : Int) := by omega
        clear l1
        go_wp2_with fail
        go_meet
        exact ⟨by rw [HBV.out], w2, rfl, R, HB⟩
      have i1 : ¬ (320 : Int) < (m.body.size : Int) := by omega
      by_cases l2 : m.kind ≠ 15 → m.body.size ≤ 200
      case neg =>
        have HBV : Hid (bl = true) := hid (by rw [← HBL.out]; exact decide_eq_true (fun h => l2 h.2.1))
        have k15 : (m.kind != 15) = true := by by_cases hk : m.kind = 15 <;> simp_all
        have i2 : (200 : Int) < (m.body.size : Int) := by by_cases hk : m.kind = 15 <;> simp_all <;> omega
        clear l1 l2
        go_wp2_with fail
        go_meet
        exact ⟨by rw [HBV.out], w2, rfl, R, HB⟩
      have HI2 : Hid ((m.kind != 15) = false ∨ ((m.kind != 15) = true ∧ ¬ (200 : Int) < (m.body.size : Int))) := hid (by
        by_cases hk : m.kind = 15
        · exact .inl (by simp [hk])
        · have := l2 hk
          exact .inr ⟨by simp [hk], by omega⟩)
      have L1 := hid l1
      have L2 := hid l2
      clear l1 l2
      by_cases l3 : m.es.length ≤ 8
      case neg =>
        have HBV : Hid (bl = true) := hid (by rw [← HBL.out]; exact decide_eq_true (fun h => l3 h.2.2.1))
        have i3 : (8 : Int) < (m.es.length : Int) := by omega
        clear l3
        rcases HI2.out with k15 | ⟨k15, i2⟩
        all_goals
          go_wp2_with fail
          go_meet
          exact ⟨by rw [HBV.out], w2, rfl, R, HB⟩
      have i3 : ¬ (8 : Int) < (m.es.length : Int) := by omega
      by_cases l4 : m.kind = 7 → m.xs.length = 8
      case neg =>
        have HBV : Hid (bl = true) := hid (by rw [← HBL.out]; exact decide_eq_true (fun h => l4 h.2.2.2))
        have k7 : (m.kind == 7) = true := by by_cases hk : m.kind = 7 <;> simp_all
        have i4 : ((m.xs.length : Int) != 8) = true := by by_cases hk : m.kind = 7 <;> simp_all <;> omega
        clear l3 l4
        rcases HI2.out with k15 | ⟨k15, i2⟩
        all_goals
          go_wp2_with fail
          go_meet
          exact ⟨by rw [HBV.out], w2, rfl, R, HB⟩
      have HI4 : Hid ((m.kind == 7) = false ∨ ((m.kind == 7) = true ∧ ((m.xs.length : Int) != 8) = false)) := hid (by
        by_cases hk : m.kind = 7
        · have := l4 hk
          exact .inr ⟨by simp [hk], by simp [this]⟩
        · exact .inl (by simp [hk]))
      have HBV : Hid (bl = false) := hid (by rw [← HBL.out]; exact decide_eq_false (fun h => h ⟨L1.out, L2.out, l3, l4⟩))
      clear l3 l4
      rcases HI2.out with k15 | ⟨k15, i2⟩
      all_goals
        rcases HI4.out with k7 | ⟨k7, i4⟩
        all_goals
          go_wp2_with fail
          go_meet
          exact ⟨by rw [HBV.out], w2, rfl, R, HB⟩
    case rest =>
      obtain ⟨rfl, W1, rfl, R2, HB2⟩ := hcut
      clear R HB
      cases bl
      case true =>
        have HD : Hid (decide (rightM m) = false) := hid (decide_eq_false (fun h => of_decide_eq_true HBL.out h.2.2.1))
        go_wp2_with fail
        go_ret
        exact ⟨by rw [HD.out]; rfl, HB2.out⟩
      have HBT := hid (Decidable.not_not.1 (of_decide_eq_false HBL.out))
      clear HBL
      go_wp2_with fail
      go_loopw [3] (fun i wr => ∃ k : Nat, k ≤ m.es.length ∧ i = .int .i64 (k : Int) ∧ Hid (∀ e ∈ m.es.take k, Rt e) ∧ Hid (Row wr w.heap.size 45 (m.cells p).toList) ∧ Hid (Below w.heap.size w wr)) (fun i _ => m.es.length - (intOf i).toNat)
      case atStart => exact ⟨0, by omega, rfl, hid (by simp), R2, HB2⟩
      case round =>
        obtain ⟨k, hk, rfl, HT, R3, HB3⟩ := hrel
        clear R2 HB2
        have c30 : wr.cell? ⟨w.heap.size, 30, none⟩ = some (.slice p.A m.es.length p.cA) := R3.out.cell 30
        by_cases hlt : k < m.es.length
        · obtain ⟨g, o, hA, hg, hrg⟩ := rws_at (n := 9) (fun _ => rfl) (HEA.out _ HB3.out) k hlt (by omega)
          rw [hA] at c30
          have hi : (k : Int) < (m.es.length : Int) := by omega
          have hi0 : (0 : Int) ≤ (k : Int) := by omega
          have HRG := hid hrg
          have HEK : Hid (∀ W, Calls Tryz.prog 42 #[(m.es[k]).val] W (VE W (.bool (decide (Rt m.es[k]))))) := hid fun W => HE.out _ (List.getElem_mem hlt) W
          have HNX : Hid (Rt m.es[k] → ∀ e ∈ m.es.take (k + 1), Rt e) := hid (fun hr => by
            rw [List.take_succ_eq_append_getElem hlt]
            intro e he
            rcases List.mem_append.1 he with he | he
            · exact HT.out e he
            · rw [List.mem_singleton.1 he]; exact hr)
          have HNO : Hid (¬ Rt m.es[k] → decide (rightM m) = false) := hid (fun hr => decide_eq_false (fun h => hr (h.2.2.2.1 _ (List.getElem_mem _))))
          generalize m.es[k] = X at *
          clear hA hg hrg hlt HT
          by_cases hr : Rt X
          · rw [decide_eq_true hr] at HEK
            have HN2 := hid (HNX.out hr)
            clear hr HNX HNO
            go_wp2_with (first
              | ((with_reducible show wpList _ _ _ ({ dst := some 149, op := _, type := _, pos := _, after := _, guard := _ } :: _) _ _); refine wpl_load_midw rfl 35 (.tmp 148) rfl g (o + k * 9) rfl (Array.toList X.cells) _ HRG.out Tryz.underlying35 rfl (by exact HZE.out) ?_)
              | (go_at_call 42; refine (HEK.out _).mono ?_; rintro e w4 ⟨rfl, hb4⟩))
            go_roundw
            case rel => exact ⟨k + 1, by omega, by go_num, HN2, hid (R3.out.below hb4 R3.out.lt), hid (HB3.out.trans (hb4.mono HB3.out.size))⟩
            case measure => simp [intOf]; omega
          · rw [decide_eq_false hr] at HEK
            have HD := hid (HNO.out hr)
            clear hr HNX HNO
            go_wp2_with (first
              | ((with_reducible show wpList _ _ _ ({ dst := some 149, op := _, type := _, pos := _, after := _, guard := _ } :: _) _ _); refine wpl_load_midw rfl 35 (.tmp 148) rfl g (o + k * 9) rfl (Array.toList X.cells) _ HRG.out Tryz.underlying35 rfl (by exact HZE.out) ?_)
              | (go_at_call 42; refine (HEK.out _).mono ?_; rintro e w4 ⟨rfl, hb4⟩))
            go_ret
            exact ⟨by rw [HD.out]; rfl, HB3.out.trans (hb4.mono HB3.out.size)⟩
        · obtain rfl : k = m.es.length := by omega
          have HES : Hid (∀ e ∈ m.es, Rt e) := hid (by have := HT.out; rwa [List.take_of_length_le (Nat.le_refl _)] at this)
          clear HT HEA hk
          go_wp2_with fail
          go_loopw [4] (fun i wr => ∃ k : Nat, k ≤ m.xs.length ∧ i = .int .i64 (k : Int) ∧ Hid (∀ e ∈ m.xs.take k, itemR e) ∧ Hid (Row wr w.heap.size 45 (m.cells p).toList) ∧ Hid (Below w.heap.size w wr)) (fun i _ => m.xs.length - (intOf i).toNat)
          case atStart => exact ⟨0, by omega, rfl, hid (by simp), R3, HB3⟩
          case round =>
            clear c30 R3 HB3
            obtain ⟨k, hk, rfl, HT, R3, HB3⟩ := hrel
            have c31 : World.cell? _ ⟨w.heap.size, 31, none⟩ = some (.slice p.B m.xs.length p.cB) := R3.out.cell 31
            by_cases hlt : k < m.xs.length
            · obtain ⟨g, o, hA, hg, hrg⟩ := rws_at (n := 15) (fun _ => rfl) (HXA.out _ HB3.out) k hlt (by omega)
              rw [hA] at c31
              have hi : (k : Int) < (m.xs.length : Int) := by omega
              have hi0 : (0 : Int) ≤ (k : Int) := by omega
              have HRG := hid hrg
              have HIK : Hid (∀ W, Calls Tryz.prog 43 #[(m.xs[k]).val] W (VE W (.bool (decide (itemR m.xs[k]))))) := hid fun W => HI.out _ (List.getElem_mem hlt) W
              have HNX : Hid (itemR m.xs[k] → ∀ e ∈ m.xs.take (k + 1), itemR e) := hid (fun hr => by
                rw [List.take_succ_eq_append_getElem hlt]
                intro e he
                rcases List.mem_append.1 he with he | he
                · exact HT.out e he
                · rw [List.mem_singleton.1 he]; exact hr)
              have HNO : Hid (¬ itemR m.xs[k] → decide (rightM m) = false) := hid (fun hr => decide_eq_false (fun h => hr (h.2.2.2.2.1 _ (List.getElem_mem _))))
              generalize m.xs[k] = X at *
              clear hA hg hrg hlt HT
              by_cases hr : itemR X
              · rw [decide_eq_true hr] at HIK
                have HN2 := hid (HNX.out hr)
                clear hr HNX HNO
                go_wp2_with (first
                  | ((with_reducible show wpList _ _ _ ({ dst := some 163, op := _, type := _, pos := _, after := _, guard := _ } :: _) _ _); refine wpl_load_midw rfl 40 (.tmp 162) rfl g (o + k * 15) rfl (Array.toList X.cells) _ HRG.out Tryz.underlying40 rfl (by exact HZI.out) ?_)
                  | (go_at_call 43; refine (HIK.out _).mono ?_; rintro e w4 ⟨rfl, hb4⟩))
                go_roundw
                case rel => exact ⟨k + 1, by omega, by go_num, HN2, hid (R3.out.below hb4 R3.out.lt), hid (HB3.out.trans (hb4.mono HB3.out.size))⟩
                case measure => simp [intOf]; omega
              · rw [decide_eq_false hr] at HIK
                have HD := hid (HNO.out hr)
                clear hr HNX HNO
                go_wp2_with (first
                  | ((with_reducible show wpList _ _ _ ({ dst := some 163, op := _, type := _, pos := _, after := _, guard := _ } :: _) _ _); refine wpl_load_midw rfl 40 (.tmp 162) rfl g (o + k * 15) rfl (Array.toList X.cells) _ HRG.out Tryz.underlying40 rfl (by exact HZI.out) ?_)
                  | (go_at_call 43; refine (HIK.out _).mono ?_; rintro e w4 ⟨rfl, hb4⟩))
                go_ret
                exact ⟨by rw [HD.out]; rfl, HB3.out.trans (hb4.mono HB3.out.size)⟩
            · obtain rfl : k = m.xs.length := by omega
              have HXS : Hid (∀ e ∈ m.xs, itemR e) := hid (by have := HT.out; rwa [List.take_of_length_le (Nat.le_refl _)] at this)
              have c0 : World.cell? _ ⟨w.heap.size, 0, none⟩ = some (.int .i64 m.kind) := R3.out.cell 0
              have HFIN : Hid (∀ b, (b = true ↔ (m.kind = 2 ∨ m.kind = 11 → Rt m.entry)) → decide (rightM m) = b) := hid (fun b hb => by
                rw [Bool.eq_iff_iff, hb, decide_eq_true_iff]
                exact ⟨fun h => h.2.2.2.2.2, fun h => ⟨⟨HP.out.1, HP.out.2.1, HP.out.2.2, HKM.out⟩, HFI.out, HBT.out, HES.out, HXS.out, h⟩⟩)
              clear HT HXA hk
              by_cases k2 : m.kind = 2
              · have e2 : (m.kind != 2) = false := by simp [k2]
                have HD := hid (HFIN.out (decide (Rt m.entry)) (by rw [decide_eq_true_iff]; simp [k2]))
                clear k2
                go_wp2_with (first
                  | ((with_reducible show wpList _ _ _ ({ dst := some 176, op := _, type := _, pos := _, after := _, guard := _ } :: _) _ _); refine wpl_load_midw rfl 35 (.tmp 175) rfl w.heap.size 21 rfl (Array.toList m.entry.cells) _ (ms_entry R3.out) Tryz.underlying35 rfl (by exact HZE.out) ?_)
                  | (go_at_call 42; refine (HEE.out _).mono ?_; rintro e w4 ⟨rfl, hb4⟩))
                go_ret
                exact ⟨by rw [HD.out]; first | rfl | simp, HB3.out.trans (hb4.mono HB3.out.size)⟩
              · have e2 : (m.kind != 2) = true := by simp [k2]
                by_cases k11 : m.kind = 11
                · have e11 : (m.kind != 11) = false := by simp [k11]
                  have HD := hid (HFIN.out (decide (Rt m.entry)) (by rw [decide_eq_true_iff]; simp [k11]))
                  clear k2 k11
                  go_wp2_with (first
                    | ((with_reducible show wpList _ _ _ ({ dst := some 176, op := _, type := _, pos := _, after := _, guard := _ } :: _) _ _); refine wpl_load_midw rfl 35 (.tmp 175) rfl w.heap.size 21 rfl (Array.toList m.entry.cells) _ (ms_entry R3.out) Tryz.underlying35 rfl (by exact HZE.out) ?_)
                    | (go_at_call 42; refine (HEE.out _).mono ?_; rintro e w4 ⟨rfl, hb4⟩))
                  go_ret
                  exact ⟨by rw [HD.out]; first | rfl | simp, HB3.out.trans (hb4.mono HB3.out.size)⟩
                · have e11 : (m.kind != 11) = true := by simp [k11]
                  have HD := hid (HFIN.out true (by simp [k2, k11]))
                  clear k2 k11
                  go_wp2_with fail
                  go_ret
                  exact ⟨by rw [HD.out]; rfl, HB3.out⟩
  · rw [show decide (m = keptM m) = false from decide_eq_false hkm] at HS
    have HD : Hid (decide (rightM m) = false) := hid (decide_eq_false (fun h => hkm h.1.2.2.2))
    clear hkm
    go_enter Tryz.func24, Tryz.ntmps24
    go_wp2_with fail
    refine wp_region_held_drew (S := (fun W => Row W w.heap.size 45 (m.cells p).toList ∧ Below w.heap.size w W)) (by kernel_rfl) (⟨R1.out.drew, HB0.out.drew⟩) (fun hH => ?_)
    refine tk_ (i := 0) (v := .pointer (some ⟨w.heap.size, 0, none⟩)) rfl (Or.inl ⟨by kernel_rfl, fun w' _ => by kernel_rfl⟩) hH ?_
    simp only [Act.put, la1, la3, la4, la5, la6]
    refine tk_ (i := 1) (v := .int .i64 m.kind) rfl (Or.inl ⟨by rfl, fun w' hw' => by have h := A0.out w' hw'; go_simp⟩) hH ?_
    simp only [Act.put, la1, la2, la3, la4, la5, la6]
    refine tk_ (i := 2) (v := .bool false) rfl (Or.inl ⟨by rfl, fun w' hw' => by have h := D0.out; go_simp⟩) hH ?_
    simp only [Act.put, la1, la2, la3, la4, la5, la6]
    refine tk_ (i := 3) (v := .bool false) rfl (Or.inl ⟨by kernel_rfl, fun w' _ => by kernel_rfl⟩) hH ?_
    simp only [Act.put, la1, la2, la3, la4, la5, la6]
    refine tk_ (i := 4) (v := .pointer (some ⟨w.heap.size, 0, none⟩)) rfl (Or.inl ⟨by kernel_rfl, fun w' _ => by kernel_rfl⟩) hH ?_
    simp only [Act.put, la1, la2, la3, la4, la5, la6]
    refine tk_ (i := 5) (v := .int .i64 m.kind) rfl (Or.inl ⟨by kernel_rfl, fun w' hw' => by have h := A0.out w' hw'; go_simp⟩) hH ?_
    simp only [Act.put, la1, la2, la3, la4, la5, la6]
    refine tk_ (i := 6) (v := .bool false) rfl (Or.inl ⟨by kernel_rfl, fun w' hw' => by have h := D1.out; go_simp⟩) hH ?_
    simp only [Act.put, la1, la2, la3, la4, la5, la6]
    refine tk_ (i := 7) (v := .bool false) rfl (Or.inl ⟨by kernel_rfl, fun w' _ => by kernel_rfl⟩) hH ?_
    simp only [Act.put, la1, la2, la3, la4, la5, la6]
    refine tk_ (i := 8) (v := .bool false) rfl (Or.inl ⟨by kernel_rfl, fun w' _ => by kernel_rfl⟩) hH ?_
    simp only [Act.put, la1, la2, la3, la4, la5, la6]
    refine tk_ (i := 9) (v := .pointer (some ⟨w.heap.size, 1, none⟩)) rfl (Or.inl ⟨by kernel_rfl, fun w' _ => by kernel_rfl⟩) hH ?_
    simp only [Act.put, la1, la2, la3, la4, la5, la6]
    refine tk_ (i := 10) (v := .int .i64 m.frm) rfl (Or.inl ⟨by kernel_rfl, fun w' hw' => by have h := A1.out w' hw'; go_simp⟩) hH ?_
    simp only [Act.put, la1, la2, la3, la4, la5, la6]
    refine tk_ (i := 11) (v := .bool false) rfl (Or.inl ⟨by kernel_rfl, fun w' hw' => by have h := D2.out; go_simp⟩) hH ?_
    simp only [Act.put, la1, la2, la3, la4, la5, la6]
    refine tk_ (i := 12) (v := .bool false) rfl (Or.inl ⟨by kernel_rfl, fun w' _ => by kernel_rfl⟩) hH ?_
    simp only [Act.put, la1, la2, la3, la4, la5, la6]
    refine tk_ (i := 13) (v := .bool false) rfl (Or.inl ⟨by kernel_rfl, fun w' _ => by kernel_rfl⟩) hH ?_
    simp only [Act.put, la1, la2, la3, la4, la5, la6]
    refine tk_ (i := 14) (v := .pointer (some ⟨w.heap.size, 1, none⟩)) rfl (Or.inl ⟨by kernel_rfl, fun w' _ => by kernel_rfl⟩) hH ?_
    simp only [Act.put, la1, la2, la3, la4, la5, la6]
    refine tk_ (i := 15) (v := .int .i64 m.frm) rfl (Or.inl ⟨by kernel_rfl, fun w' hw' => by have h := A1.out w' hw'; go_simp⟩) hH ?_
    simp only [Act.put, la1, la2, la3, la4, la5, la6]
    refine tk_ (i := 16) (v := .bool false) rfl (Or.inl ⟨by kernel_rfl, fun w' hw' => by have h := D3.out; go_simp⟩) hH ?_
    simp only [Act.put, la1, la2, la3, la4, la5, la6]
    refine tk_ (i := 17) (v := .bool false) rfl (Or.inl ⟨by kernel_rfl, fun w' _ => by kernel_rfl⟩) hH ?_
    simp only [Act.put, la1, la2, la3, la4, la5, la6]
    refine tk_ (i := 18) (v := .bool false) rfl (Or.inl ⟨by kernel_rfl, fun w' _ => by kernel_rfl⟩) hH ?_
    simp only [Act.put, la1, la2, la3, la4, la5, la6]
    refine tk_ (i := 19) (v := .pointer (some ⟨w.heap.size, 9, none⟩)) rfl (Or.inl ⟨by kernel_rfl, fun w' _ => by kernel_rfl⟩) hH ?_
    simp only [Act.put, la1, la2, la3, la4, la5, la6]
    refine tk_ (i := 20) (v := .int .i64 m.oper) rfl (Or.inl ⟨by kernel_rfl, fun w' hw' => by have h := A9.out w' hw'; go_simp⟩) hH ?_
    simp only [Act.put, la1, la2, la3, la4, la5, la6]
    refine tk_ (i := 21) (v := .bool false) rfl (Or.inl ⟨by kernel_rfl, fun w' hw' => by have h := D4.out; go_simp⟩) hH ?_
    simp only [Act.put, la1, la2, la3, la4, la5, la6]
    refine tk_ (i := 22) (v := .bool false) rfl (Or.inl ⟨by kernel_rfl, fun w' _ => by kernel_rfl⟩) hH ?_
    simp only [Act.put, la1, la2, la3, la4, la5, la6]
    refine tk_ (i := 23) (v := .bool false) rfl (Or.inl ⟨by kernel_rfl, fun w' _ => by kernel_rfl⟩) hH ?_
    simp only [Act.put, la1, la2, la3, la4, la5, la6]
    refine tk_ (i := 24) (v := .pointer (some ⟨w.heap.size, 9, none⟩)) rfl (Or.inl ⟨by kernel_rfl, fun w' _ => by kernel_rfl⟩) hH ?_
    simp only [Act.put, la1, la2, la3, la4, la5, la6]
    refine tk_ (i := 25) (v := .int .i64 m.oper) rfl (Or.inl ⟨by kernel_rfl, fun w' hw' => by have h := A9.out w' hw'; go_simp⟩) hH ?_
    simp only [Act.put, la1, la2, la3, la4, la5, la6]
    refine tk_ (i := 26) (v := .bool false) rfl (Or.inl ⟨by kernel_rfl, fun w' hw' => by have h := D5.out; go_simp⟩) hH ?_
    simp only [Act.put, la1, la2, la3, la4, la5, la6]
    refine tk_ (i := 27) (v := .bool false) rfl (Or.inl ⟨by kernel_rfl, fun w' _ => by kernel_rfl⟩) hH ?_
    simp only [Act.put, la1, la2, la3, la4, la5, la6]
    refine tk_ (i := 28) (v := .bool false) rfl (Or.inl ⟨by kernel_rfl, fun w' _ => by kernel_rfl⟩) hH ?_
    simp only [Act.put, la1, la2, la3, la4, la5, la6]
    refine tk_ (i := 29) (v := .agg (m.cells p)) rfl (yieldsIf_load_mid (by kernel_rfl) 45 (.tmp 1) rfl (w.heap.size) (0) rfl (Array.toList (m.cells p)) _ (fun W hW => Row.range hW.1) Tryz.underlying45 rfl (by exact HZS.out)) hH ?_
    simp only [Act.put, la1, la2, la3, la4, la5, la6]
    refine tk_ (i := 30) (v := .agg (m.cells p)) rfl (yieldsIf_load_mid (by kernel_rfl) 45 (.tmp 1) rfl (w.heap.size) (0) rfl (Array.toList (m.cells p)) _ (fun W hW => Row.range hW.1) Tryz.underlying45 rfl (by exact HZS.out)) hH ?_
    simp only [Act.put, la1, la2, la3, la4, la5, la6]
    refine rd1 (i := 31) (by kernel_rfl) rfl (fun K hK => ?_)
    rw [if_pos (by kernel_rfl)]
    go_simp
    go_at_call 40
    refine (HK.out _).mono ?_
    rintro e w1 ⟨rfl, hb1⟩
    go_wp2_with fail
    refine hK.out _ _ (⟨hH.1.below hb1 hH.1.lt, hH.2.trans (hb1.mono hH.2.size)⟩) (fun hH => ?_)
    clear hK K
    try simp only [Act.put, la1, la2, la3, la4, la5, la6]
    refine rd1 (i := 32) (by kernel_rfl) rfl (fun K hK => ?_)
    rw [if_pos (by kernel_rfl)]
    go_simp
    go_at_call 39
    refine (HS.out _ hH.2).mono ?_
    rintro e w2 ⟨rfl, hb1⟩
    go_wp2_with fail
    refine hK.out _ _ (⟨hH.1.below hb1 hH.1.lt, hH.2.trans (hb1.mono hH.2.size)⟩) (fun hH => ?_)
    clear hK K
    try simp only [Act.put, la1, la2, la3, la4, la5, la6]
    refine tk_ (i := 33) (v := .bool true) rfl (Or.inl ⟨by kernel_rfl, fun w' _ => by kernel_rfl⟩) hH ?_
    simp only [Act.put, la1, la2, la3, la4, la5, la6]
    refine tk_ (i := 34) (v := .bool true) rfl (Or.inl ⟨by kernel_rfl, fun w' _ => by kernel_rfl⟩) hH ?_
    simp only [Act.put, la1, la2, la3, la4, la5, la6]
    refine wpAnyH_done (by kernel_rfl) ?_ _
    try simp only [Act.put, la1, la2, la3, la4, la5, la6]
    go_wp2_with fail
    go_ret
    exact ⟨by rw [HD.out]; rfl, hH.2⟩
end Go.Proofs.YteahbalcielhpaaGreatDoor
