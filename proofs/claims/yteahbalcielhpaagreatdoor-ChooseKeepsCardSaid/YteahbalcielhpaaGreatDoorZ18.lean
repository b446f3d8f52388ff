/-
  The program's mayItem.
-/
import Derived.Test.YteahbalcielhpaaGreatDoorZ10
import Derived.Test.YteahbalcielhpaaGreatDoorZ14
import Derived.Test.YteahbalcielhpaaGreatDoorZ07
namespace Go.Proofs.YteahbalcielhpaaGreatDoor
open Go.RowKit
set_option maxRecDepth 10000

section
variable {ops : Array Oper} {rest : List Oper} {o : Oper} {a : Act} {w : World} {Q : Exit → Act → World → Prop}
theorem wpl_eqi2 (hw : Region.wanted o (yielded ops a.tmps) = true) (s t : It) (b : Bool) (x y : Operand) (ty : TypeId) (ho : o.op = .binOp .eql 40 x y ty)
    (hx : a.eval x = .agg s.cells) (hy : a.eval y = .agg t.cells) (hb : Hid (b = true ↔ s = t)) (h : wpList Tryz.prog ops Q rest (a.put o.dst (.bool b)) w) : wpList Tryz.prog ops Q (o :: rest) a w := by
  refine BigFrame.wpList_want hw fun K hK => ?_
  have hEQ := eqIt2 9996 s t w b hb.out
  have hEG := egIt
  generalize s.cells = Z at *
  generalize t.cells = Y at *
  unfold Oper.wp execOp
  simp [ho, hx, hy, eqGuard, hEG, binOp, Op.equal, Op.maxDepth, hEQ, Result.andThen]
  exact hK _ _ h
end
set_option maxHeartbeats 4000000 in
theorem mayItem_any (x : It) (hx : x.fits) (w : World) (hfd : Fd w) : Calls Tryz.prog 81 #[x.val] w (VE w (.bool (decide (itemR x)))) := by
  show Calls _ _ #[.agg x.cells] _ _
  have HR := hid (fun W => eright_any x.entry W)
  have HFD := hid hfd
  have HS := hid (fun W (h : Fd W) => sstub_any x.entry hx.2.2 W h)
  have HZE := hid esize
  have HZS := hid stsizeM
  have HZI := hid isize
  have HB0 : Hid (Below w.heap.size w (w.alloc (.cells x.cells 40))) := hid ((Below.refl _ _).alloc (Nat.le_refl _) _)
  have R1 : Hid (Row (w.alloc (.cells x.cells 40)) w.heap.size 40 x.cells.toList) := hid (Row.new _ _ _)
  have a0 : (w.alloc (.cells x.cells 40)).cell? ⟨w.heap.size, 0, none⟩ = some (.int .i64 x.kind) := R1.out.cell 0
  clear hfd
  by_cases h1 : x.kind = 1
  · have HIT : Hid (itemR x ↔ Rt x.entry ∧ stubS x.entry = x.stub) := hid (by unfold itemR; rw [if_pos h1])
    have e1 : (x.kind == 1) = true := by simp [h1]
    have e0 : (x.kind == 0) = false := by simp [h1]
    have e3 : (x.kind == 3) = false := by simp [h1]
    clear h1
    by_cases hr : Rt x.entry
    · rw [decide_eq_true hr] at HR
      obtain ⟨b, hb⟩ : ∃ b, decide (stubS x.entry = x.stub) = b := ⟨_, rfl⟩
      have HD : Hid (decide (itemR x) = b) := hid (by rw [← hb, Bool.eq_iff_iff, decide_eq_true_iff, decide_eq_true_iff, HIT.out]; exact ⟨fun h => h.2, fun h => ⟨hr, h⟩⟩)
      have HB := hid hb
      clear hb hr HIT
      go_enter Tryz.func81, Tryz.ntmps81
      go_wp2_with fail
      refine wp_region_held_drew (S := (fun W => Row W w.heap.size 40 x.cells.toList ∧ Below w.heap.size w W)) (by kernel_rfl) (⟨R1.out.drew, HB0.out.drew⟩) (fun hH => ?_)
      refine tk_ (i := 0) (v := .pointer (some ⟨w.heap.size, 6, none⟩)) rfl (Or.inl ⟨by kernel_rfl, fun w' _ => by kernel_rfl⟩) hH ?_
      simp only [Act.put, la1, la3, la4, la5, la6]
      refine tk_ (i := 1) (v := .agg (x.entry.cells)) rfl (yieldsIf_load_mid rfl 35 (.tmp 17) rfl (w.heap.size) (6) rfl (Array.toList (x.entry.cells)) _ (fun W hW => it_entry hW.1) Tryz.underlying35 rfl (by exact HZE.out)) hH ?_
      simp only [Act.put, la1, la2, la3, la4, la5, la6]
      refine rd1 (i := 2) (by kernel_rfl) rfl (fun K hK => ?_)
      go_simp
      go_at_call 25
      refine (HR.out _).mono ?_
      rintro e w1 ⟨rfl, hb1⟩
      go_wp2_with fail
      refine hK.out _ _ (⟨hH.1.below hb1 hH.1.lt, hH.2.trans (hb1.mono hH.2.size)⟩) (fun hH => ?_)
      clear hK K
      try simp only [Act.put, la1, la2, la3, la4, la5, la6]
      refine tk_ (i := 3) (v := .bool true) rfl (Or.inl ⟨by kernel_rfl, fun w' _ => by kernel_rfl⟩) hH ?_
      simp only [Act.put, la1, la2, la3, la4, la5, la6]
      refine tk_ (i := 4) (v := .pointer (some ⟨w.heap.size, 6, none⟩)) rfl (Or.inl ⟨by kernel_rfl, fun w' _ => by kernel_rfl⟩) hH ?_
      simp only [Act.put, la1, la2, la3, la4, la5, la6]
      refine tk_ (i := 5) (v := .agg (x.entry.cells)) rfl (yieldsIf_load_mid (by kernel_rfl) 35 (.tmp 21) rfl (w.heap.size) (6) rfl (Array.toList (x.entry.cells)) _ (fun W hW => it_entry hW.1) Tryz.underlying35 rfl (by exact HZE.out)) hH ?_
      simp only [Act.put, la1, la2, la3, la4, la5, la6]
      refine tk_ (i := 7) (v := .pointer (some ⟨w.heap.size, 1, none⟩)) rfl (Or.inl ⟨by kernel_rfl, fun w' _ => by kernel_rfl⟩) hH ?_
      simp only [Act.put, la1, la2, la3, la4, la5, la6]
      refine tk_ (i := 8) (v := .agg (x.stub.cells)) rfl (yieldsIf_load_mid (by kernel_rfl) 38 (.tmp 24) rfl (w.heap.size) (1) rfl (Array.toList (x.stub.cells)) _ (fun W hW => it_stub hW.1) Tryz.underlying38 rfl (by exact HZS.out)) hH ?_
      simp only [Act.put, la1, la2, la3, la4, la5, la6]
      refine rd1 (i := 6) (by kernel_rfl) rfl (fun K hK => ?_)
      rw [if_pos (by kernel_rfl)]
      go_simp
      go_at_call 14
      refine (HS.out _ (HFD.out.below hH.2 HFD.out.1)).mono ?_
      rintro e w2 ⟨rfl, hb1⟩
      go_wp2_with fail
      refine hK.out _ _ (⟨hH.1.below hb1 hH.1.lt, hH.2.trans (hb1.mono hH.2.size)⟩) (fun hH => ?_)
      clear hK K
      try simp only [Act.put, la1, la2, la3, la4, la5, la6]
      refine tk_ (i := 9) (v := .bool b) rfl (yields_eqs (by kernel_rfl) (stubS x.entry) x.stub b HB (.tmp 23) (.tmp 25) _ rfl (by kernel_rfl) (by kernel_rfl)) hH ?_
      simp only [Act.put, la1, la2, la3, la4, la5, la6]
      refine tk_ (i := 10) (v := .bool b) rfl (Or.inl ⟨by kernel_rfl, fun w' _ => by kernel_rfl⟩) hH ?_
      simp only [Act.put, la1, la2, la3, la4, la5, la6]
      refine rd1 (i := 11) (by kernel_rfl) rfl (fun K hK => ?_)
      go_simp
      refine hK.out _ _ (hH) (fun hH => ?_)
      clear hK K
      try simp only [Act.put, la1, la2, la3, la4, la5, la6]
      refine wpAnyH_done (by kernel_rfl) ?_ _
      try simp only [Act.put, la1, la2, la3, la4, la5, la6]
      go_wp2_with fail
      go_ret
      exact ⟨by rw [HD.out]; first | rfl | simp, hH.2⟩
    · rw [decide_eq_false hr] at HR
      have HD : Hid (decide (itemR x) = false) := hid (decide_eq_false (fun h => hr (HIT.out.1 h).1))
      clear hr HIT
      go_enter Tryz.func81, Tryz.ntmps81
      go_wp2_with fail
      refine wp_region_held_drew (S := (fun W => Row W w.heap.size 40 x.cells.toList ∧ Below w.heap.size w W)) (by kernel_rfl) (⟨R1.out.drew, HB0.out.drew⟩) (fun hH => ?_)
      refine tk_ (i := 0) (v := .pointer (some ⟨w.heap.size, 6, none⟩)) rfl (Or.inl ⟨by kernel_rfl, fun w' _ => by kernel_rfl⟩) hH ?_
      simp only [Act.put, la1, la3, la4, la5, la6]
      refine tk_ (i := 1) (v := .agg (x.entry.cells)) rfl (yieldsIf_load_mid rfl 35 (.tmp 17) rfl (w.heap.size) (6) rfl (Array.toList (x.entry.cells)) _ (fun W hW => it_entry hW.1) Tryz.underlying35 rfl (by exact HZE.out)) hH ?_
      simp only [Act.put, la1, la2, la3, la4, la5, la6]
      refine rd1 (i := 2) (by kernel_rfl) rfl (fun K hK => ?_)
      go_simp
      go_at_call 25
      refine (HR.out _).mono ?_
      rintro e w1 ⟨rfl, hb1⟩
      go_wp2_with fail
      refine hK.out _ _ (⟨hH.1.below hb1 hH.1.lt, hH.2.trans (hb1.mono hH.2.size)⟩) (fun hH => ?_)
      clear hK K
      try simp only [Act.put, la1, la2, la3, la4, la5, la6]
      refine tk_ (i := 3) (v := .bool false) rfl (Or.inl ⟨by kernel_rfl, fun w' _ => by kernel_rfl⟩) hH ?_
      simp only [Act.put, la1, la2, la3, la4, la5, la6]
      refine tk_ (i := 4) (v := undef) rfl (Or.inr ⟨by kernel_rfl, rfl⟩) hH ?_
      simp only [Act.put, la1, la2, la3, la4, la5, la6]
      refine tk_ (i := 5) (v := undef) rfl (Or.inr ⟨by kernel_rfl, rfl⟩) hH ?_
      simp only [Act.put, la1, la2, la3, la4, la5, la6]
      refine tk_ (i := 6) (v := undef) rfl (Or.inr ⟨by kernel_rfl, rfl⟩) hH ?_
      simp only [Act.put, la1, la2, la3, la4, la5, la6]
      refine tk_ (i := 7) (v := undef) rfl (Or.inr ⟨by kernel_rfl, rfl⟩) hH ?_
      simp only [Act.put, la1, la2, la3, la4, la5, la6]
      refine tk_ (i := 8) (v := undef) rfl (Or.inr ⟨by kernel_rfl, rfl⟩) hH ?_
      simp only [Act.put, la1, la2, la3, la4, la5, la6]
      refine tk_ (i := 9) (v := undef) rfl (Or.inr ⟨by kernel_rfl, rfl⟩) hH ?_
      simp only [Act.put, la1, la2, la3, la4, la5, la6]
      refine tk_ (i := 10) (v := .bool false) rfl (Or.inl ⟨by kernel_rfl, fun w' _ => by kernel_rfl⟩) hH ?_
      simp only [Act.put, la1, la2, la3, la4, la5, la6]
      refine rd1 (i := 11) (by kernel_rfl) rfl (fun K hK => ?_)
      go_simp
      refine hK.out _ _ (hH) (fun hH => ?_)
      clear hK K
      try simp only [Act.put, la1, la2, la3, la4, la5, la6]
      refine wpAnyH_done (by kernel_rfl) ?_ _
      try simp only [Act.put, la1, la2, la3, la4, la5, la6]
      go_wp2_with fail
      go_ret
      exact ⟨by rw [HD.out]; rfl, hH.2⟩
  · have e1 : (x.kind == 1) = false := by simp [h1]
    obtain ⟨bn, hbn⟩ : ∃ b, decide (x.entry = en0) = b := ⟨_, rfl⟩
    have HBN : Hid (bn = true ↔ x.entry = en0) := hid (by rw [← hbn]; simp)
    by_cases h2 : x.kind = 2
    · have HIT : Hid (itemR x ↔ SRt x.stub ∧ x.entry = en0) := hid (by unfold itemR; rw [if_neg h1, if_pos h2])
      have e2 : (x.kind == 2) = true := by simp [h2]
      have e0 : (x.kind == 0) = false := by simp [h2]
      have e3 : (x.kind == 3) = false := by simp [h2]
      clear h1 h2
      have HY : Hid (∀ W, Calls Tryz.prog 89 #[.string ⟨#[]⟩, .agg x.stub.cells] W (SN W (hdrS [] x.stub))) := hid (fun W => shdr_any ⟨#[]⟩ x.stub hx.2.1 (by decide) W)
      by_cases hs : SRt x.stub
      · have hby : ∃ T, hdrS [] x.stub = (T, 0) := ⟨_, by unfold hdrS sealS; rw [if_pos hs, if_neg (by rw [sbytes_len]; omega)]⟩
        obtain ⟨T, hby⟩ := hby
        rw [hby] at HY
        have HD : Hid (decide (itemR x) = bn) := hid (by rw [Bool.eq_iff_iff, decide_eq_true_iff, HIT.out, HBN.out]; exact ⟨fun h => h.2, fun h => ⟨hs, h⟩⟩)
        clear hs hby HIT hbn
        go_enter Tryz.func81, Tryz.ntmps81
        go_wp2_with (first
          | ((with_reducible show wpList _ _ _ ({ dst := some 32, op := _, type := _, pos := _, after := _, guard := _ } :: _) _ _); refine wpl_load_midw rfl 38 (.tmp 31) rfl w.heap.size 1 rfl (Array.toList x.stub.cells) _ (it_stub R1.out) Tryz.underlying38 rfl (by exact HZS.out) ?_)
          | (go_at_call 89; refine (HY.out _).mono ?_; rintro e w1 ⟨rfl, hb1⟩; have R2 := hid (R1.out.below hb1 R1.out.lt))
          | ((with_reducible show wpList _ _ _ ({ dst := some 40, op := _, type := _, pos := _, after := _, guard := _ } :: _) _ _); refine wpl_load_midw rfl 35 (.tmp 39) rfl w.heap.size 6 rfl (Array.toList x.entry.cells) _ (it_entry R2.out) Tryz.underlying35 rfl (by exact HZE.out) ?_)
          | ((with_reducible show wpList _ _ _ ({ dst := some 42, op := _, type := _, pos := _, after := _, guard := _ } :: _) _ _); refine wpl_eqe2 rfl x.entry en0 _ (.tmp 40) (.tmp 41) _ rfl rfl rfl HBN ?_))
        go_ret
        exact ⟨by rw [HD.out]; rfl, HB0.out.trans (hb1.mono HB0.out.size)⟩
      · have hby : hdrS [] x.stub = ([], 4) := by unfold hdrS; rw [if_neg hs]
        rw [hby] at HY
        have HD : Hid (decide (itemR x) = false) := hid (decide_eq_false (fun h => hs (HIT.out.1 h).1))
        clear hs hby HIT hbn
        go_enter Tryz.func81, Tryz.ntmps81
        go_wp2_with (first
          | ((with_reducible show wpList _ _ _ ({ dst := some 32, op := _, type := _, pos := _, after := _, guard := _ } :: _) _ _); refine wpl_load_midw rfl 38 (.tmp 31) rfl w.heap.size 1 rfl (Array.toList x.stub.cells) _ (it_stub R1.out) Tryz.underlying38 rfl (by exact HZS.out) ?_)
          | (go_at_call 89; refine (HY.out _).mono ?_; rintro e w1 ⟨rfl, hb1⟩))
        go_ret
        exact ⟨by rw [HD.out]; rfl, HB0.out.trans (hb1.mono HB0.out.size)⟩
    · have HIT : Hid (itemR x ↔ (x.kind = 0 ∨ x.kind = 3) ∧ x.entry = en0 ∧ x.stub = st0) := hid (by unfold itemR; rw [if_neg h1, if_neg h2])
      have e2 : (x.kind == 2) = false := by simp [h2]
      clear h1 h2 hbn HBN
      by_cases h3 : x.kind = 0 ∨ x.kind = 3
      · obtain ⟨b, hb⟩ : ∃ b, decide (x = ⟨x.kind, st0, en0⟩) = b := ⟨_, rfl⟩
        have HB : Hid (b = true ↔ x = ⟨x.kind, st0, en0⟩) := hid (by rw [← hb]; simp)
        have HD : Hid (decide (itemR x) = b) := hid (by
          rw [Bool.eq_iff_iff, decide_eq_true_iff, HIT.out, HB.out, it_ext]
          exact ⟨fun h => ⟨rfl, h.2.2, h.2.1⟩, fun h => ⟨h3, h.2.2, h.2.1⟩⟩)
        have HK : Hid ((x.kind == 0) = true ∨ ((x.kind == 0) = false ∧ (x.kind == 3) = true)) := hid (by
          rcases h3 with h | h
          · exact .inl (by simp [h])
          · exact .inr ⟨by simp [h], by simp [h]⟩)
        clear HIT h3 hb
        rcases HK.out with e3 | ⟨e3, e4⟩
        all_goals
          clear HK
          go_enter Tryz.func81, Tryz.ntmps81
          go_wp2_with (first
            | ((with_reducible show wpList _ _ _ ({ dst := some 10, op := _, type := _, pos := _, after := _, guard := _ } :: _) _ _); refine wpList_load_row rfl 40 (.tmp 1) rfl w.heap.size rfl 40 x.cells (0, 0) _ (Row.arr R1.out) Tryz.underlying40 rfl HZI.out ?_)
            | ((with_reducible show wpList _ _ _ ({ dst := some 14, op := _, type := _, pos := _, after := _, guard := _ } :: _) _ _); refine wpl_eqi2 rfl x ⟨x.kind, st0, en0⟩ _ (.tmp 10) (.tmp 13) _ rfl rfl rfl HB ?_))
          go_ret
          exact ⟨by rw [HD.out]; rfl, HB0.out⟩
      · have HD : Hid (decide (itemR x) = false) := hid (decide_eq_false (fun h => h3 (HIT.out.1 h).1))
        have e3 : (x.kind == 0) = false := by simp; omega
        have e4 : (x.kind == 3) = false := by simp; omega
        clear HIT h3
        go_enter Tryz.func81, Tryz.ntmps81
        go_wp2_with fail
        go_ret
        exact ⟨by rw [HD.out]; rfl, HB0.out⟩
end Go.Proofs.YteahbalcielhpaaGreatDoor
/-
  The program's mayEntries, mayItems.
-/
namespace Go.Proofs.YteahbalcielhpaaGreatDoor
open Go.RowKit
set_option maxRecDepth 10000

set_option maxHeartbeats 4000000 in
theorem mayEntries_any (l : List En) (A : Option Addr) (c B : Nat) (w : World) (hr : Rd w B A (rws (fun e : En => e.cells.toList) l)) (hB : B ≤ w.heap.size) (_hc : l.length ≤ c) (hl : l.length ≤ 9223372036854775807) (_hf : ∀ e ∈ l, e.fits) (_hfd : Fd w) :
    Calls Tryz.prog 67 #[.slice A l.length c] w (VE w (.bool (decide (mayE l)))) := by
  have HXA : Hid (∀ W, Below w.heap.size w W → Rd W B A (rws (fun e : En => e.cells.toList) l)) := hid fun W hW => hr.below hW hB
  have HI : Hid (∀ X ∈ l, ∀ W, Below w.heap.size w W → Calls Tryz.prog 25 #[.agg X.cells] W (VE W (.bool (decide (Rt X))))) := hid fun X hX W hW => eright_any X W
  have HZ := hid esize
  have HB0 : Hid (Below w.heap.size w w) := hid (Below.refl _ _)
  clear hr _hf _hfd
  by_cases h8 : 8 < l.length
  · have HD : Hid (decide (mayE l) = false) := hid (decide_eq_false (fun h => by have := h.1; omega))
    have h8i : (8 : Int) < (l.length : Int) := by omega
    clear h8
    go_enter Tryz.func67, Tryz.ntmps67
    go_wp2_with fail
    go_ret
    exact ⟨by rw [HD.out]; rfl, HB0.out⟩
  have h8i : ¬ ((8 : Int) < (l.length : Int)) := by omega
  have HLE := hid h8
  clear h8
  go_enter Tryz.func67, Tryz.ntmps67
  go_wp2_with fail
  go_loopw [10] (fun i wr => ∃ k : Nat, k ≤ l.length ∧ i = .int .i64 (k : Int) ∧ Hid (∀ e ∈ l.take k, Rt e) ∧ Hid (Below w.heap.size w wr)) (fun i _ => l.length - (intOf i).toNat)
  case atStart => exact ⟨0, by omega, rfl, hid (by simp), HB0⟩
  case round =>
    obtain ⟨k, hk, rfl, HT, HB2⟩ := hrel
    by_cases hlt : k < l.length
    · obtain ⟨g, o, hA, hg, hrg⟩ := rws_at (n := 9) (fun _ => rfl) (HXA.out _ HB2.out) k hlt (by omega)
      subst hA
      have hi : (k : Int) < (l.length : Int) := by omega
      have hi0 : (0 : Int) ≤ (k : Int) := by omega
      have HRG := hid hrg
      have HEK := hid (HI.out _ (List.getElem_mem hlt))
      have HNX : Hid (Rt l[k] → ∀ e ∈ l.take (k + 1), Rt e) := hid (fun hr => by
        rw [List.take_succ_eq_append_getElem hlt]
        intro e he
        rcases List.mem_append.1 he with he | he
        · exact HT.out e he
        · rw [List.mem_singleton.1 he]; exact hr)
      have HNO : Hid (¬ Rt l[k] → decide (mayE l) = false) := hid (fun hr => decide_eq_false (fun h => hr (h.2 _ (List.getElem_mem _))))
      generalize l[k] = X at *
      clear hg hrg hlt HT
      by_cases hr : Rt X
      · rw [decide_eq_true hr] at HEK
        have HN2 := hid (HNX.out hr)
        clear hr HNX HNO
        go_wp2_with (first
          | ((with_reducible show wpList _ _ _ ({ dst := some 13, op := _, type := _, pos := _, after := _, guard := _ } :: _) _ _); refine wpl_load_midw rfl 35 (.tmp 12) rfl g (o + k * 9) rfl (Array.toList X.cells) _ HRG.out Tryz.underlying35 rfl (by exact HZ.out) ?_)
          | ((with_reducible show wpList _ _ _ ({ dst := none, op := .store _ (.tmp 4) _, type := _, pos := _, after := _, guard := _ } :: _) _ _); refine wpl_store_st rfl (.tmp 4) (.tmp 13) rfl HZ.out wr.heap.size #[.int .i64 0, .int .i64 0, .int .i64 0, .int .u64 0, .int .i64 0, .int .i64 0, .int .i64 0, .int .i64 0, .string ⟨#[]⟩] X.cells rfl rfl (Row.new _ _ _) ?_ (hid rfl) (hid rfl) (hid (ecells_one X)); intro w3 hr3 hg3; have RX := hid hr3; have HB3 := hid ((HB2.out.alloc HB2.out.size (.cells #[.int .i64 0, .int .i64 0, .int .i64 0, .int .u64 0, .int .i64 0, .int .i64 0, .int .i64 0, .int .i64 0, .string ⟨#[]⟩] 35)).trans (below_grown hg3 HB2.out.size (by simp; exact Nat.le_succ_of_le HB2.out.size))))
          | ((with_reducible show wpList _ _ _ ({ dst := some 14, op := _, type := _, pos := _, after := _, guard := _ } :: _) _ _); refine wpList_load_row rfl 35 (.tmp 4) rfl wr.heap.size rfl 35 X.cells (0, 0) _ (Row.arr RX.out) Tryz.underlying35 rfl HZ.out ?_)
          | (go_at_call 25; refine (HEK.out _ HB3.out).mono ?_; rintro e w4 ⟨rfl, hb4⟩))
        go_roundw
        case rel => exact ⟨k + 1, by omega, by go_num, HN2, hid (HB3.out.trans (hb4.mono HB3.out.size))⟩
        case measure => simp [intOf]; omega
      · rw [decide_eq_false hr] at HEK
        have HD := hid (HNO.out hr)
        clear hr HNX HNO
        go_wp2_with (first
          | ((with_reducible show wpList _ _ _ ({ dst := some 13, op := _, type := _, pos := _, after := _, guard := _ } :: _) _ _); refine wpl_load_midw rfl 35 (.tmp 12) rfl g (o + k * 9) rfl (Array.toList X.cells) _ HRG.out Tryz.underlying35 rfl (by exact HZ.out) ?_)
          | ((with_reducible show wpList _ _ _ ({ dst := none, op := .store _ (.tmp 4) _, type := _, pos := _, after := _, guard := _ } :: _) _ _); refine wpl_store_st rfl (.tmp 4) (.tmp 13) rfl HZ.out wr.heap.size #[.int .i64 0, .int .i64 0, .int .i64 0, .int .u64 0, .int .i64 0, .int .i64 0, .int .i64 0, .int .i64 0, .string ⟨#[]⟩] X.cells rfl rfl (Row.new _ _ _) ?_ (hid rfl) (hid rfl) (hid (ecells_one X)); intro w3 hr3 hg3; have RX := hid hr3; have HB3 := hid ((HB2.out.alloc HB2.out.size (.cells #[.int .i64 0, .int .i64 0, .int .i64 0, .int .u64 0, .int .i64 0, .int .i64 0, .int .i64 0, .int .i64 0, .string ⟨#[]⟩] 35)).trans (below_grown hg3 HB2.out.size (by simp; exact Nat.le_succ_of_le HB2.out.size))))
          | ((with_reducible show wpList _ _ _ ({ dst := some 14, op := _, type := _, pos := _, after := _, guard := _ } :: _) _ _); refine wpList_load_row rfl 35 (.tmp 4) rfl wr.heap.size rfl 35 X.cells (0, 0) _ (Row.arr RX.out) Tryz.underlying35 rfl HZ.out ?_)
          | (go_at_call 25; refine (HEK.out _ HB3.out).mono ?_; rintro e w4 ⟨rfl, hb4⟩))
        go_ret
        exact ⟨by rw [HD.out]; rfl, HB3.out.trans (hb4.mono HB3.out.size)⟩
    · obtain rfl : k = l.length := by omega
      have HD : Hid (decide (mayE l) = true) := hid (decide_eq_true ⟨by have := HLE.out; omega, by have := HT.out; rwa [List.take_of_length_le (Nat.le_refl _)] at this⟩)
      clear HT
      go_wp2_with fail
      go_ret
      exact ⟨by rw [HD.out]; rfl, HB2.out⟩
set_option maxHeartbeats 4000000 in
theorem mayItems_any (l : List It) (A : Option Addr) (c B : Nat) (w : World) (hr : Rd w B A (rws (fun e : It => e.cells.toList) l)) (hB : B ≤ w.heap.size) (_hc : l.length ≤ c) (hl : l.length ≤ 9223372036854775807) (hf : ∀ e ∈ l, e.fits) (hfd : Fd w) :
    Calls Tryz.prog 68 #[.slice A l.length c] w (VE w (.bool (decide (mayX l)))) := by
  have HXA : Hid (∀ W, Below w.heap.size w W → Rd W B A (rws (fun e : It => e.cells.toList) l)) := hid fun W hW => hr.below hW hB
  have HI : Hid (∀ X ∈ l, ∀ W, Below w.heap.size w W → Calls Tryz.prog 81 #[.agg X.cells] W (VE W (.bool (decide (itemR X))))) := hid fun X hX W hW => mayItem_any X (hf X hX) W (hfd.below hW hfd.1)
  have HZ := hid isize
  have HB0 : Hid (Below w.heap.size w w) := hid (Below.refl _ _)
  clear hr hf hfd
  by_cases h8 : l.length ≠ 8
  · have HD : Hid (decide (mayX l) = false) := hid (decide_eq_false (fun h => by have := h.1; omega))
    have h8i : ((l.length : Int) != 8) = true := by simp; omega
    clear h8
    go_enter Tryz.func68, Tryz.ntmps68
    go_wp2_with fail
    go_ret
    exact ⟨by rw [HD.out]; rfl, HB0.out⟩
  have h8i : ((l.length : Int) != 8) = false := by simp; omega
  have HLE := hid h8
  clear h8
  go_enter Tryz.func68, Tryz.ntmps68
  go_wp2_with fail
  go_loopw [10] (fun i wr => ∃ k : Nat, k ≤ l.length ∧ i = .int .i64 (k : Int) ∧ Hid (∀ e ∈ l.take k, itemR e) ∧ Hid (Below w.heap.size w wr)) (fun i _ => l.length - (intOf i).toNat)
  case atStart => exact ⟨0, by omega, rfl, hid (by simp), HB0⟩
  case round =>
    obtain ⟨k, hk, rfl, HT, HB2⟩ := hrel
    by_cases hlt : k < l.length
    · obtain ⟨g, o, hA, hg, hrg⟩ := rws_at (n := 15) (fun _ => rfl) (HXA.out _ HB2.out) k hlt (by omega)
      subst hA
      have hi : (k : Int) < (l.length : Int) := by omega
      have hi0 : (0 : Int) ≤ (k : Int) := by omega
      have HRG := hid hrg
      have HEK := hid (HI.out _ (List.getElem_mem hlt))
      have HNX : Hid (itemR l[k] → ∀ e ∈ l.take (k + 1), itemR e) := hid (fun hr => by
        rw [List.take_succ_eq_append_getElem hlt]
        intro e he
        rcases List.mem_append.1 he with he | he
        · exact HT.out e he
        · rw [List.mem_singleton.1 he]; exact hr)
      have HNO : Hid (¬ itemR l[k] → decide (mayX l) = false) := hid (fun hr => decide_eq_false (fun h => hr (h.2 _ (List.getElem_mem _))))
      generalize l[k] = X at *
      clear hg hrg hlt HT
      by_cases hr : itemR X
      · rw [decide_eq_true hr] at HEK
        have HN2 := hid (HNX.out hr)
        clear hr HNX HNO
        go_wp2_with (first
          | ((with_reducible show wpList _ _ _ ({ dst := some 13, op := _, type := _, pos := _, after := _, guard := _ } :: _) _ _); refine wpl_load_midw rfl 40 (.tmp 12) rfl g (o + k * 15) rfl (Array.toList X.cells) _ HRG.out Tryz.underlying40 rfl (by exact HZ.out) ?_)
          | ((with_reducible show wpList _ _ _ ({ dst := none, op := .store _ (.tmp 4) _, type := _, pos := _, after := _, guard := _ } :: _) _ _); refine wpl_store_st rfl (.tmp 4) (.tmp 13) rfl HZ.out wr.heap.size #[.int .i64 0, .int .i64 0, .int .i64 0, .int .i64 0, .int .u64 0, .int .u64 0, .int .i64 0, .int .i64 0, .int .i64 0, .int .u64 0, .int .i64 0, .int .i64 0, .int .i64 0, .int .i64 0, .string ⟨#[]⟩] X.cells rfl rfl (Row.new _ _ _) ?_ (hid rfl) (hid rfl) (hid (by simp [It.cells, Value.oneCell'])); intro w3 hr3 hg3; have RX := hid hr3; have HB3 := hid ((HB2.out.alloc HB2.out.size (.cells #[.int .i64 0, .int .i64 0, .int .i64 0, .int .i64 0, .int .u64 0, .int .u64 0, .int .i64 0, .int .i64 0, .int .i64 0, .int .u64 0, .int .i64 0, .int .i64 0, .int .i64 0, .int .i64 0, .string ⟨#[]⟩] 40)).trans (below_grown hg3 HB2.out.size (by simp; exact Nat.le_succ_of_le HB2.out.size))))
          | ((with_reducible show wpList _ _ _ ({ dst := some 14, op := _, type := _, pos := _, after := _, guard := _ } :: _) _ _); refine wpList_load_row rfl 40 (.tmp 4) rfl wr.heap.size rfl 40 X.cells (0, 0) _ (Row.arr RX.out) Tryz.underlying40 rfl HZ.out ?_)
          | (go_at_call 81; refine (HEK.out _ HB3.out).mono ?_; rintro e w4 ⟨rfl, hb4⟩))
        go_roundw
        case rel => exact ⟨k + 1, by omega, by go_num, HN2, hid (HB3.out.trans (hb4.mono HB3.out.size))⟩
        case measure => simp [intOf]; omega
      · rw [decide_eq_false hr] at HEK
        have HD := hid (HNO.out hr)
        clear hr HNX HNO
        go_wp2_with (first
          | ((with_reducible show wpList _ _ _ ({ dst := some 13, op := _, type := _, pos := _, after := _, guard := _ } :: _) _ _); refine wpl_load_midw rfl 40 (.tmp 12) rfl g (o + k * 15) rfl (Array.toList X.cells) _ HRG.out Tryz.underlying40 rfl (by exact HZ.out) ?_)
          | ((with_reducible show wpList _ _ _ ({ dst := none, op := .store _ (.tmp 4) _, type := _, pos := _, after := _, guard := _ } :: _) _ _); refine wpl_store_st rfl (.tmp 4) (.tmp 13) rfl HZ.out wr.heap.size #[.int .i64 0, .int .i64 0, .int .i64 0, .int .i64 0, .int .u64 0, .int .u64 0, .int .i64 0, .int .i64 0, .int .i64 0, .int .u64 0, .int .i64 0, .int .i64 0, .int .i64 0, .int .i64 0, .string ⟨#[]⟩] X.cells rfl rfl (Row.new _ _ _) ?_ (hid rfl) (hid rfl) (hid (by simp [It.cells, Value.oneCell'])); intro w3 hr3 hg3; have RX := hid hr3; have HB3 := hid ((HB2.out.alloc HB2.out.size (.cells #[.int .i64 0, .int .i64 0, .int .i64 0, .int .i64 0, .int .u64 0, .int .u64 0, .int .i64 0, .int .i64 0, .int .i64 0, .int .u64 0, .int .i64 0, .int .i64 0, .int .i64 0, .int .i64 0, .string ⟨#[]⟩] 40)).trans (below_grown hg3 HB2.out.size (by simp; exact Nat.le_succ_of_le HB2.out.size))))
          | ((with_reducible show wpList _ _ _ ({ dst := some 14, op := _, type := _, pos := _, after := _, guard := _ } :: _) _ _); refine wpList_load_row rfl 40 (.tmp 4) rfl wr.heap.size rfl 40 X.cells (0, 0) _ (Row.arr RX.out) Tryz.underlying40 rfl HZ.out ?_)
          | (go_at_call 81; refine (HEK.out _ HB3.out).mono ?_; rintro e w4 ⟨rfl, hb4⟩))
        go_ret
        exact ⟨by rw [HD.out]; rfl, HB3.out.trans (hb4.mono HB3.out.size)⟩
    · obtain rfl : k = l.length := by omega
      have HD : Hid (decide (mayX l) = true) := hid (decide_eq_true ⟨by have := HLE.out; omega, by have := HT.out; rwa [List.take_of_length_le (Nat.le_refl _)] at this⟩)
      clear HT
      go_wp2_with fail
      go_ret
      exact ⟨by rw [HD.out]; rfl, HB2.out⟩
end Go.Proofs.YteahbalcielhpaaGreatDoor
/-
  The program's may, empty.
-/
namespace Go.Proofs.YteahbalcielhpaaGreatDoor
open Go.RowKit
set_option maxRecDepth 10000

theorem ba_empty (b : ByteArray) : b.toList.isEmpty = decide (b = ⟨#[]⟩) := by
  rw [ByteArray.toList_eq, Bool.eq_iff_iff, decide_eq_true_iff, List.isEmpty_iff]
  constructor
  · intro h
    apply ByteArray.ext
    apply Array.toList_inj.1
    exact h
  · intro h
    rw [h]
theorem six_size17 : (Tryz.prog.info? 42).map (·.size) = some 6 := by kernel_rfl
set_option maxHeartbeats 4000000 in
theorem may_111 (m : Ms) (p : Pl) (w : World) : Calls Tryz.prog 50 #[.agg (m.cells p), .int .i32 111] w (VE w (.bool (decide (mayS m 111)))) := by
  have HB0 : Hid (Below w.heap.size w (w.alloc (.cells (m.cells p) 45))) := hid ((Below.refl _ _).alloc (Nat.le_refl _) _)
  have R1 : Hid (Row (w.alloc (.cells (m.cells p) 45)) w.heap.size 45 (m.cells p).toList) := hid (Row.new _ _ _)
  have a9 : (w.alloc (.cells (m.cells p) 45)).cell? ⟨w.heap.size, 9, none⟩ = some (.int .i64 m.oper) := R1.out.cell 9
  have HD : Hid (decide (mayS m 111) = wi 0 255 [m.oper]) := hid (by rw [Bool.eq_iff_iff, decide_eq_true_iff]; simp [wi, mayS])
  have HW := hid (mwiA 255 [m.oper] #[.int .i64 m.oper] 1 (by simp) (by simp) rfl rfl)
  rw [HD.out]
  generalize wi 0 255 [m.oper] = b at *
  clear HD
  go_enter Tryz.func50, Tryz.ntmps50
  go_wp2_with (go_at_call 48; refine (HW.out _ _ (by simp)).mono ?_; rintro e w' ⟨rfl, rfl⟩)
  go_ret
  refine ⟨rfl, ?_⟩
  repeat' first | exact Below.refl _ _ | refine Below.alloc ?_ (by simp <;> omega) _
set_option maxHeartbeats 4000000 in
theorem may_67 (m : Ms) (p : Pl) (w : World) : Calls Tryz.prog 50 #[.agg (m.cells p), .int .i32 67] w (VE w (.bool (decide (mayS m 67)))) := by
  have HB0 : Hid (Below w.heap.size w (w.alloc (.cells (m.cells p) 45))) := hid ((Below.refl _ _).alloc (Nat.le_refl _) _)
  have R1 : Hid (Row (w.alloc (.cells (m.cells p) 45)) w.heap.size 45 (m.cells p).toList) := hid (Row.new _ _ _)
  have a12 : (w.alloc (.cells (m.cells p) 45)).cell? ⟨w.heap.size, 12, none⟩ = some (.int .i64 m.check.opn) := R1.out.cell 12
  have a13 : (w.alloc (.cells (m.cells p) 45)).cell? ⟨w.heap.size, 13, none⟩ = some (.int .i64 m.check.view) := R1.out.cell 13
  have HD : Hid (decide (mayS m 67) = wi 0 72057594037927935 [m.check.opn, m.check.view]) := hid (by rw [Bool.eq_iff_iff, decide_eq_true_iff]; simp [wi, mayS, Fi])
  have HW := hid (mwiA 72057594037927935 [m.check.opn, m.check.view] #[.int .i64 m.check.opn, .int .i64 m.check.view] 2 (by simp) (by simp) rfl rfl)
  rw [HD.out]
  generalize wi 0 72057594037927935 [m.check.opn, m.check.view] = b at *
  clear HD
  go_enter Tryz.func50, Tryz.ntmps50
  go_wp2_with (go_at_call 48; refine (HW.out _ _ (by simp)).mono ?_; rintro e w' ⟨rfl, rfl⟩)
  go_ret
  refine ⟨rfl, ?_⟩
  repeat' first | exact Below.refl _ _ | refine Below.alloc ?_ (by simp <;> omega) _
set_option maxHeartbeats 4000000 in
theorem may_83 (m : Ms) (p : Pl) (w : World) : Calls Tryz.prog 50 #[.agg (m.cells p), .int .i32 83] w (VE w (.bool (decide (mayS m 83)))) := by
  have HB0 : Hid (Below w.heap.size w (w.alloc (.cells (m.cells p) 45))) := hid ((Below.refl _ _).alloc (Nat.le_refl _) _)
  have R1 : Hid (Row (w.alloc (.cells (m.cells p) 45)) w.heap.size 45 (m.cells p).toList) := hid (Row.new _ _ _)
  have HD : Hid (decide (mayS m 83) = true) := hid (by simp [mayS])
  rw [HD.out]
  clear HD
  go_enter Tryz.func50, Tryz.ntmps50
  go_wp2_with fail
  go_ret
  exact ⟨rfl, HB0.out⟩
set_option maxHeartbeats 4000000 in
theorem may_69 (m : Ms) (p : Pl) (w : World) : Calls Tryz.prog 50 #[.agg (m.cells p), .int .i32 69] w (VE w (.bool (decide (mayS m 69)))) := by
  have HB0 : Hid (Below w.heap.size w (w.alloc (.cells (m.cells p) 45))) := hid ((Below.refl _ _).alloc (Nat.le_refl _) _)
  have R1 : Hid (Row (w.alloc (.cells (m.cells p) 45)) w.heap.size 45 (m.cells p).toList) := hid (Row.new _ _ _)
  have HD : Hid (decide (mayS m 69) = decide (Rt m.entry)) := hid rfl
  have HR := hid (fun W => eright_any m.entry W)
  have HZE := hid esize
  rw [HD.out]
  generalize decide (Rt m.entry) = b at *
  clear HD
  go_enter Tryz.func50, Tryz.ntmps50
  go_wp2_with (first
    | ((with_reducible show wpList _ _ _ ({ dst := some 27, op := _, type := _, pos := _, after := _, guard := _ } :: _) _ _); refine wpl_load_midw rfl 35 (.tmp 26) rfl w.heap.size 21 rfl (Array.toList (m.entry.cells)) _ (ms_entry R1.out) Tryz.underlying35 rfl (by exact HZE.out) ?_)
    | (go_at_call 25; refine (HR.out _).mono ?_; rintro e w1 ⟨rfl, hb1⟩))
  go_ret
  exact ⟨rfl, HB0.out.trans (hb1.mono HB0.out.size)⟩
set_option maxHeartbeats 4000000 in
theorem may_76 (m : Ms) (p : Pl) (w : World) (B : Nat) (hm : PlOk w B m p) (hB : B ≤ w.heap.size) (hf : m.fits) (hfd : Fd w) : Calls Tryz.prog 50 #[.agg (m.cells p), .int .i32 76] w (VE w (.bool (decide (mayS m 76)))) := by
  have HB0 : Hid (Below w.heap.size w (w.alloc (.cells (m.cells p) 45))) := hid ((Below.refl _ _).alloc (Nat.le_refl _) _)
  have R1 : Hid (Row (w.alloc (.cells (m.cells p) 45)) w.heap.size 45 (m.cells p).toList) := hid (Row.new _ _ _)
  have a30 : (w.alloc (.cells (m.cells p) 45)).cell? ⟨w.heap.size, 30, none⟩ = some (.slice p.A m.es.length p.cA) := R1.out.cell 30
  have HD : Hid (decide (mayS m 76) = decide (mayE m.es)) := hid rfl
  have HR : Hid (∀ W, Below w.heap.size w W → Calls Tryz.prog 67 #[.slice p.A m.es.length p.cA] W (VE W (.bool (decide (mayE m.es))))) := hid (fun W hW => mayEntries_any m.es p.A p.cA B W (hm.a.below hW hB) (Nat.le_trans hB hW.size) hm.ca hm.la hf.2.2.2.2.2.1 (hfd.below hW hfd.1))
  rw [HD.out]
  generalize decide (mayE m.es) = b at *
  clear HD hm hf hfd
  go_enter Tryz.func50, Tryz.ntmps50
  go_wp2_with (go_at_call 67; refine (HR.out _ HB0.out).mono ?_; rintro e w1 ⟨rfl, hb1⟩)
  go_ret
  exact ⟨rfl, HB0.out.trans (hb1.mono HB0.out.size)⟩
set_option maxHeartbeats 4000000 in
theorem may_73 (m : Ms) (p : Pl) (w : World) (B : Nat) (hm : PlOk w B m p) (hB : B ≤ w.heap.size) (hf : m.fits) (hfd : Fd w) : Calls Tryz.prog 50 #[.agg (m.cells p), .int .i32 73] w (VE w (.bool (decide (mayS m 73)))) := by
  have HB0 : Hid (Below w.heap.size w (w.alloc (.cells (m.cells p) 45))) := hid ((Below.refl _ _).alloc (Nat.le_refl _) _)
  have R1 : Hid (Row (w.alloc (.cells (m.cells p) 45)) w.heap.size 45 (m.cells p).toList) := hid (Row.new _ _ _)
  have a31 : (w.alloc (.cells (m.cells p) 45)).cell? ⟨w.heap.size, 31, none⟩ = some (.slice p.B m.xs.length p.cB) := R1.out.cell 31
  have HD : Hid (decide (mayS m 73) = decide (mayX m.xs)) := hid rfl
  have HR : Hid (∀ W, Below w.heap.size w W → Calls Tryz.prog 68 #[.slice p.B m.xs.length p.cB] W (VE W (.bool (decide (mayX m.xs))))) := hid (fun W hW => mayItems_any m.xs p.B p.cB B W (hm.b.below hW hB) (Nat.le_trans hB hW.size) hm.cb hm.lb hf.2.2.2.2.2.2 (hfd.below hW hfd.1))
  rw [HD.out]
  generalize decide (mayX m.xs) = b at *
  clear HD hm hf hfd
  go_enter Tryz.func50, Tryz.ntmps50
  go_wp2_with (go_at_call 68; refine (HR.out _ HB0.out).mono ?_; rintro e w1 ⟨rfl, hb1⟩)
  go_ret
  exact ⟨rfl, HB0.out.trans (hb1.mono HB0.out.size)⟩
set_option maxHeartbeats 4000000 in
theorem may_66 (m : Ms) (p : Pl) (w : World) : Calls Tryz.prog 50 #[.agg (m.cells p), .int .i32 66] w (VE w (.bool (decide (mayS m 66)))) := by
  have HB0 : Hid (Below w.heap.size w (w.alloc (.cells (m.cells p) 45))) := hid ((Below.refl _ _).alloc (Nat.le_refl _) _)
  have R1 : Hid (Row (w.alloc (.cells (m.cells p) 45)) w.heap.size 45 (m.cells p).toList) := hid (Row.new _ _ _)
  have C0 : Hid (∀ W, Row W w.heap.size 45 (m.cells p).toList ∧ Below w.heap.size w W → W.cell? ⟨w.heap.size, 0, none⟩ = some (.int .i64 m.kind)) := hid fun W h => h.1.cell 0
  have C32 : Hid (∀ W, Row W w.heap.size 45 (m.cells p).toList ∧ Below w.heap.size w W → W.cell? ⟨w.heap.size, 32, none⟩ = some (.string m.body)) := hid fun W h => h.1.cell 32
  have HL := hid (fun W => longest_any m.kind W)
  have HD : Hid (decide (mayS m 66) = decide ((m.body.size : Int) ≤ (if m.kind = 15 then 320 else 200))) := hid rfl
  rw [HD.out]
  generalize (if m.kind = 15 then (320 : Int) else 200) = L at *
  clear HD
  go_enter Tryz.func50, Tryz.ntmps50
  go_wp2_with fail
  refine wp_region_held_drew (S := (fun W => Row W w.heap.size 45 (m.cells p).toList ∧ Below w.heap.size w W)) (by kernel_rfl) (⟨R1.out.drew, HB0.out.drew⟩) (fun hH => ?_)
  refine tk_ (i := 0) (v := .pointer (some ⟨w.heap.size, 32, none⟩)) rfl (Or.inl ⟨by kernel_rfl, fun w' _ => by kernel_rfl⟩) hH ?_
  simp only [Act.put, la1, la3, la4, la5, la6]
  refine tk_ (i := 1) (v := .string m.body) rfl (Or.inl ⟨by rfl, fun w' hw' => by have h := C32.out w' hw'; go_simp⟩) hH ?_
  simp only [Act.put, la1, la2, la3, la4, la5, la6]
  refine tk_ (i := 2) (v := .int .i64 (m.body.size : Int)) rfl (Or.inl ⟨by rfl, fun w' hw' => by clear hw'; go_simp⟩) hH ?_
  simp only [Act.put, la1, la2, la3, la4, la5, la6]
  refine tk_ (i := 3) (v := .pointer (some ⟨w.heap.size, 0, none⟩)) rfl (Or.inl ⟨by kernel_rfl, fun w' _ => by kernel_rfl⟩) hH ?_
  simp only [Act.put, la1, la2, la3, la4, la5, la6]
  refine tk_ (i := 4) (v := .int .i64 m.kind) rfl (Or.inl ⟨by rfl, fun w' hw' => by have h := C0.out w' hw'; go_simp⟩) hH ?_
  simp only [Act.put, la1, la2, la3, la4, la5, la6]
  refine rd1 (i := 5) (by kernel_rfl) rfl (fun K hK => ?_)
  go_simp
  go_at_call 69
  refine (HL.out _).mono ?_
  rintro e w1 ⟨rfl, rfl⟩
  go_wp2_with fail
  refine hK.out _ _ (⟨hH.1, hH.2⟩) (fun hH => ?_)
  clear hK K
  try simp only [Act.put, la1, la2, la3, la4, la5, la6]
  refine tk_ (i := 6) (v := .bool (decide ((m.body.size : Int) ≤ L))) rfl (Or.inl ⟨by rfl, fun w' hw' => by clear hw'; go_simp⟩) hH ?_
  simp only [Act.put, la1, la2, la3, la4, la5, la6]
  refine rd1 (i := 7) (by kernel_rfl) rfl (fun K hK => ?_)
  go_simp
  refine hK.out _ _ (hH) (fun hH => ?_)
  clear hK K
  try simp only [Act.put, la1, la2, la3, la4, la5, la6]
  refine wpAnyH_done (by kernel_rfl) ?_ _
  try simp only [Act.put, la1, la2, la3, la4, la5, la6]
  go_wp2_with fail
  go_ret
  exact ⟨rfl, hH.2⟩
set_option maxHeartbeats 4000000 in
theorem may_num (m : Ms) (p : Pl) (w : World) (c : Nat) (hc : c ∈ [118, 108, 112, 109, 99, 115, 114, 120, 122]) : Calls Tryz.prog 50 #[.agg (m.cells p), .int .i32 (c : Int)] w (VE w (.bool (decide (mayS m c)))) := by
  have HB0 : Hid (Below w.heap.size w (w.alloc (.cells (m.cells p) 45))) := hid ((Below.refl _ _).alloc (Nat.le_refl _) _)
  have R1 : Hid (Row (w.alloc (.cells (m.cells p) 45)) w.heap.size 45 (m.cells p).toList) := hid (Row.new _ _ _)
  have HD : Hid (decide (mayS m c) = wi 0 72057594037927935 [numS m c]) := hid (by
    simp only [List.mem_cons, List.not_mem_nil, or_false] at hc
    rcases hc with rfl | rfl | rfl | rfl | rfl | rfl | rfl | rfl | rfl <;> simp [wi, mayS, Fi])
  have HN : Hid (∀ W, Calls Tryz.prog 70 #[.agg (m.cells p), .int .i32 (c : Int)] W (VE W (.int .i64 (numS m c)))) := hid (fun W => number_any m p c (by
    simp only [List.mem_cons, List.not_mem_nil, or_false] at hc
    rcases hc with rfl | rfl | rfl | rfl | rfl | rfl | rfl | rfl | rfl <;> simp [sgN]) W)
  have HZS := hid mssize
  rw [HD.out]
  clear HD
  generalize numS m c = N at *
  have HW := hid (mwiA 72057594037927935 [N] #[.int .i64 N] 1 (by simp) (by simp) rfl rfl)
  generalize wi 0 72057594037927935 [N] = b at *
  simp only [List.mem_cons, List.not_mem_nil, or_false] at hc
  rcases hc with rfl | rfl | rfl | rfl | rfl | rfl | rfl | rfl | rfl
  all_goals
    go_enter Tryz.func50, Tryz.ntmps50
    go_wp2_with (first
      | ((with_reducible show wpList _ _ _ ({ dst := some 48, op := _, type := _, pos := _, after := _, guard := _ } :: _) _ _); refine wpList_load_row rfl 45 (.tmp 2) rfl w.heap.size rfl 45 (m.cells p) (0, 0) _ (Row.arr R1.out) Tryz.underlying45 rfl HZS.out ?_)
      | (go_at_call 70; refine (HN.out _).mono ?_; rintro e w1 ⟨rfl, hb1⟩)
      | (go_at_call 48; refine (HW.out _ _ (by simp)).mono ?_; rintro e w' ⟨rfl, rfl⟩))
    go_ret
    exact ⟨rfl, (HB0.out.trans (hb1.mono HB0.out.size)).alloc (HB0.out.trans (hb1.mono HB0.out.size)).size _⟩
theorem may_any (m : Ms) (p : Pl) (w : World) (B : Nat) (hm : PlOk w B m p) (hB : B ≤ w.heap.size) (hf : m.fits) (hfd : Fd w) (c : Nat) (hc : c ∈ sgA) :
    Calls Tryz.prog 50 #[.agg (m.cells p), .int .i32 (c : Int)] w (VE w (.bool (decide (mayS m c)))) := by
  by_cases hn : c ∈ [118, 108, 112, 109, 99, 115, 114, 120, 122]
  · exact may_num m p w c hn
  simp only [sgA, List.mem_cons, List.not_mem_nil, or_false] at hc hn
  have h7 : c = 111 ∨ c = 67 ∨ c = 83 ∨ c = 69 ∨ c = 76 ∨ c = 73 ∨ c = 66 := by omega
  clear hc hn
  rcases h7 with rfl | rfl | rfl | rfl | rfl | rfl | rfl
  · exact may_111 m p w
  · exact may_67 m p w
  · exact may_83 m p w
  · exact may_69 m p w
  · exact may_76 m p w B hm hB hf hfd
  · exact may_73 m p w B hm hB hf hfd
  · exact may_66 m p w
set_option maxHeartbeats 4000000 in
theorem empty_67 (m : Ms) (p : Pl) (w : World) : Calls Tryz.prog 51 #[.agg (m.cells p), .int .i32 67] w (VE w (.bool (decide (emptyS m 67)))) := by
  have HB0 : Hid (Below w.heap.size w (w.alloc (.cells (m.cells p) 45))) := hid ((Below.refl _ _).alloc (Nat.le_refl _) _)
  have R1 : Hid (Row (w.alloc (.cells (m.cells p) 45)) w.heap.size 45 (m.cells p).toList) := hid (Row.new _ _ _)
  have HZ := hid msize
  obtain ⟨b, hb⟩ : ∃ b, decide (m.check = mk0) = b := ⟨_, rfl⟩
  have HE := hid hb
  have HD : Hid (decide (emptyS m 67) = b) := hid hb
  rw [HD.out]
  clear HD hb
  go_enter Tryz.func51, Tryz.ntmps51
  go_wp2_with (first
    | ((with_reducible show wpList _ _ _ ({ dst := some 9, op := _, type := _, pos := _, after := _, guard := _ } :: _) _ _); refine wpl_load_midw rfl 27 (.tmp 8) rfl w.heap.size 12 rfl (Array.toList (m.check.cells)) _ (ms_check R1.out) Tryz.underlying27 rfl (by exact HZ.out) ?_)
    | ((with_reducible show wpList _ _ _ ({ dst := some 11, op := _, type := _, pos := _, after := _, guard := _ } :: _) _ _); refine wpl_eqm rfl m.check mk0 _ (.tmp 9) (.tmp 10) _ rfl rfl rfl HE ?_))
  go_ret
  exact ⟨rfl, HB0.out⟩
set_option maxHeartbeats 4000000 in
theorem empty_83 (m : Ms) (p : Pl) (w : World) (hs : m.sums.length = 6) : Calls Tryz.prog 51 #[.agg (m.cells p), .int .i32 83] w (VE w (.bool (decide (emptyS m 83)))) := by
  have HB0 : Hid (Below w.heap.size w (w.alloc (.cells (m.cells p) 45))) := hid ((Below.refl _ _).alloc (Nat.le_refl _) _)
  have R1 : Hid (Row (w.alloc (.cells (m.cells p) 45)) w.heap.size 45 (m.cells p).toList) := hid (Row.new _ _ _)
  have HZ := hid six_size17
  obtain ⟨b, hb⟩ : ∃ b, decide (m.sums = z6) = b := ⟨_, rfl⟩
  have HE := hid hb
  have HD : Hid (decide (emptyS m 83) = b) := hid hb
  have HS := hid hs
  have HS0 : Hid (z6.length = 6) := hid rfl
  rw [HD.out]
  clear HD hb hs
  go_enter Tryz.func51, Tryz.ntmps51
  go_wp2_with (first
    | ((with_reducible show wpList _ _ _ ({ dst := some 15, op := _, type := _, pos := _, after := _, guard := _ } :: _) _ _); refine wpl_load_midw rfl 42 (.tmp 14) rfl w.heap.size 15 rfl (Array.toList (sixV m.sums)) _ (ms_sums R1.out) Tryz.underlying42 rfl (by exact HZ.out) ?_)
    | ((with_reducible show wpList _ _ _ ({ dst := some 17, op := _, type := _, pos := _, after := _, guard := _ } :: _) _ _); refine wpl_eq6 rfl m.sums z6 _ (.tmp 15) (.tmp 16) _ rfl rfl rfl HS HS0 HE ?_))
  go_ret
  exact ⟨rfl, HB0.out⟩
set_option maxHeartbeats 4000000 in
theorem empty_69 (m : Ms) (p : Pl) (w : World) : Calls Tryz.prog 51 #[.agg (m.cells p), .int .i32 69] w (VE w (.bool (decide (emptyS m 69)))) := by
  have HB0 : Hid (Below w.heap.size w (w.alloc (.cells (m.cells p) 45))) := hid ((Below.refl _ _).alloc (Nat.le_refl _) _)
  have R1 : Hid (Row (w.alloc (.cells (m.cells p) 45)) w.heap.size 45 (m.cells p).toList) := hid (Row.new _ _ _)
  have HZ := hid esize
  obtain ⟨b, hb⟩ : ∃ b, decide (m.entry = en0) = b := ⟨_, rfl⟩
  have HE : Hid (b = true ↔ m.entry = en0) := hid (by rw [← hb]; simp)
  have HD : Hid (decide (emptyS m 69) = b) := hid hb
  rw [HD.out]
  clear HD hb
  go_enter Tryz.func51, Tryz.ntmps51
  go_wp2_with (first
    | ((with_reducible show wpList _ _ _ ({ dst := some 21, op := _, type := _, pos := _, after := _, guard := _ } :: _) _ _); refine wpl_load_midw rfl 35 (.tmp 20) rfl w.heap.size 21 rfl (Array.toList (m.entry.cells)) _ (ms_entry R1.out) Tryz.underlying35 rfl (by exact HZ.out) ?_)
    | ((with_reducible show wpList _ _ _ ({ dst := some 23, op := _, type := _, pos := _, after := _, guard := _ } :: _) _ _); refine wpl_eqe2 rfl m.entry en0 _ (.tmp 21) (.tmp 22) _ rfl rfl rfl HE ?_))
  go_ret
  exact ⟨rfl, HB0.out⟩
set_option maxHeartbeats 4000000 in
theorem empty_76 (m : Ms) (p : Pl) (w : World) : Calls Tryz.prog 51 #[.agg (m.cells p), .int .i32 76] w (VE w (.bool (decide (emptyS m 76)))) := by
  have HB0 : Hid (Below w.heap.size w (w.alloc (.cells (m.cells p) 45))) := hid ((Below.refl _ _).alloc (Nat.le_refl _) _)
  have R1 : Hid (Row (w.alloc (.cells (m.cells p) 45)) w.heap.size 45 (m.cells p).toList) := hid (Row.new _ _ _)
  have a30 : (w.alloc (.cells (m.cells p) 45)).cell? ⟨w.heap.size, 30, none⟩ = some (.slice p.A m.es.length p.cA) := R1.out.cell 30
  by_cases h : m.es = []
  · have HD : Hid (decide (emptyS m 76) = true) := hid (decide_eq_true h)
    have hl : m.es.length = 0 := by rw [h]; rfl
    rw [HD.out]
    rw [hl] at a30
    clear HD h
    go_enter Tryz.func51, Tryz.ntmps51
    go_wp2_with fail
    go_ret
    exact ⟨rfl, HB0.out⟩
  · have HD : Hid (decide (emptyS m 76) = false) := hid (decide_eq_false h)
    have hl : ¬ (m.es.length = 0) := fun e => h (List.eq_nil_of_length_eq_zero e)
    have hl2 : ¬ ((m.es.length : Int) = 0) := by omega
    rw [HD.out]
    clear HD h
    go_enter Tryz.func51, Tryz.ntmps51
    go_wp2_with fail
    go_ret
    exact ⟨by simp [hl], HB0.out⟩
set_option maxHeartbeats 4000000 in
theorem empty_73 (m : Ms) (p : Pl) (w : World) : Calls Tryz.prog 51 #[.agg (m.cells p), .int .i32 73] w (VE w (.bool (decide (emptyS m 73)))) := by
  have HB0 : Hid (Below w.heap.size w (w.alloc (.cells (m.cells p) 45))) := hid ((Below.refl _ _).alloc (Nat.le_refl _) _)
  have R1 : Hid (Row (w.alloc (.cells (m.cells p) 45)) w.heap.size 45 (m.cells p).toList) := hid (Row.new _ _ _)
  have a31 : (w.alloc (.cells (m.cells p) 45)).cell? ⟨w.heap.size, 31, none⟩ = some (.slice p.B m.xs.length p.cB) := R1.out.cell 31
  by_cases h : m.xs = []
  · have HD : Hid (decide (emptyS m 73) = true) := hid (decide_eq_true h)
    have hl : m.xs.length = 0 := by rw [h]; rfl
    rw [HD.out]
    rw [hl] at a31
    clear HD h
    go_enter Tryz.func51, Tryz.ntmps51
    go_wp2_with fail
    go_ret
    exact ⟨rfl, HB0.out⟩
  · have HD : Hid (decide (emptyS m 73) = false) := hid (decide_eq_false h)
    have hl : ¬ (m.xs.length = 0) := fun e => h (List.eq_nil_of_length_eq_zero e)
    have hl2 : ¬ ((m.xs.length : Int) = 0) := by omega
    rw [HD.out]
    clear HD h
    go_enter Tryz.func51, Tryz.ntmps51
    go_wp2_with fail
    go_ret
    exact ⟨by simp [hl], HB0.out⟩
set_option maxHeartbeats 4000000 in
theorem empty_66 (m : Ms) (p : Pl) (w : World) : Calls Tryz.prog 51 #[.agg (m.cells p), .int .i32 66] w (VE w (.bool (decide (emptyS m 66)))) := by
  have HB0 : Hid (Below w.heap.size w (w.alloc (.cells (m.cells p) 45))) := hid ((Below.refl _ _).alloc (Nat.le_refl _) _)
  have R1 : Hid (Row (w.alloc (.cells (m.cells p) 45)) w.heap.size 45 (m.cells p).toList) := hid (Row.new _ _ _)
  have a32 : (w.alloc (.cells (m.cells p) 45)).cell? ⟨w.heap.size, 32, none⟩ = some (.string m.body) := R1.out.cell 32
  have HD : Hid (decide (emptyS m 66) = decide (m.body = ⟨#[]⟩)) := hid rfl
  rw [HD.out]
  clear HD
  go_enter Tryz.func51, Tryz.ntmps51
  go_wp2_with fail
  go_ret
  exact ⟨by rw [← ba_empty]; rfl, HB0.out⟩
set_option maxHeartbeats 4000000 in
theorem empty_num (m : Ms) (p : Pl) (w : World) (c : Nat) (hc : c ∈ sgN) : Calls Tryz.prog 51 #[.agg (m.cells p), .int .i32 (c : Int)] w (VE w (.bool (decide (emptyS m c)))) := by
  have HB0 : Hid (Below w.heap.size w (w.alloc (.cells (m.cells p) 45))) := hid ((Below.refl _ _).alloc (Nat.le_refl _) _)
  have R1 : Hid (Row (w.alloc (.cells (m.cells p) 45)) w.heap.size 45 (m.cells p).toList) := hid (Row.new _ _ _)
  have HD : Hid (decide (emptyS m c) = decide (numS m c = 0)) := hid (by
    simp only [sgN, List.mem_cons, List.not_mem_nil, or_false] at hc
    rcases hc with rfl | rfl | rfl | rfl | rfl | rfl | rfl | rfl | rfl | rfl <;> rfl)
  have HN := hid (fun W => number_any m p c hc W)
  have HZS := hid mssize
  rw [HD.out]
  clear HD
  generalize numS m c = N at *
  simp only [sgN, List.mem_cons, List.not_mem_nil, or_false] at hc
  rcases hc with rfl | rfl | rfl | rfl | rfl | rfl | rfl | rfl | rfl | rfl
  all_goals
    go_enter Tryz.func51, Tryz.ntmps51
    go_wp2_with (first
      | ((with_reducible show wpList _ _ _ ({ dst := some 41, op := _, type := _, pos := _, after := _, guard := _ } :: _) _ _); refine wpList_load_row rfl 45 (.tmp 2) rfl w.heap.size rfl 45 (m.cells p) (0, 0) _ (Row.arr R1.out) Tryz.underlying45 rfl HZS.out ?_)
      | (go_at_call 70; refine (HN.out _).mono ?_; rintro e w1 ⟨rfl, hb1⟩))
    go_ret
    exact ⟨by first | rfl | simp, HB0.out.trans (hb1.mono HB0.out.size)⟩
theorem empty_any (m : Ms) (p : Pl) (w : World) (hs : m.sums.length = 6) (c : Nat) (hc : c ∈ sgA) :
    Calls Tryz.prog 51 #[.agg (m.cells p), .int .i32 (c : Int)] w (VE w (.bool (decide (emptyS m c)))) := by
  by_cases hn : c ∈ sgN
  · exact empty_num m p w c hn
  simp only [sgA, sgN, List.mem_cons, List.not_mem_nil, or_false] at hc hn
  have h7 : c = 67 ∨ c = 83 ∨ c = 69 ∨ c = 76 ∨ c = 73 ∨ c = 66 := by omega
  clear hc hn
  rcases h7 with rfl | rfl | rfl | rfl | rfl | rfl
  · exact empty_67 m p w
  · exact empty_83 m p w hs
  · exact empty_69 m p w
  · exact empty_76 m p w
  · exact empty_73 m p w
  · exact empty_66 m p w
end Go.Proofs.YteahbalcielhpaaGreatDoor
