/-
  The document's Encode.
-/
import Derived.Test.YtcildaeiogdfdaaGreatDoorZ24
import Derived.Test.YtcildaeiogdfdaaGreatDoorZ23
namespace Go.Proofs.YtcildaeiogdfdaaGreatDoor
open Go.RowKit
set_option maxRecDepth 10000

theorem hsize17 : (Tryz.prog.info? 42).map (·.size) = some 12 := by kernel_rfl
def hdI (m : Ms) : Hd := { hdM m with b := m.index }
set_option maxHeartbeats 4000000 in
theorem enc17_any (m : Ms) (p : Pl) (B : Nat) (w : World) (hm : PlOk w B m p) (hB : B ≤ w.heap.size) (hf : m.fits) :
    Calls Tryz.prog 17 #[.agg (m.cells p)] w (SN w (encM m)) := by
  have HZS := hid mssize
  have HZH := hid hsize17
  have HR : Hid (∀ W, Below w.heap.size w W → Calls Tryz.prog 38 #[.agg (m.cells p)] W (VE W (.bool (decide (rightM m))))) := hid fun W hW =>
    rightm_any m p B W ⟨hm.a.below hW hB, hm.b.below hW hB, hm.la, hm.lb, hm.ca, hm.cb⟩ (Nat.le_trans hB hW.size) hf
  have HB0 : Hid (Below w.heap.size w (w.alloc (.cells (m.cells p) 32))) := hid ((Below.refl _ _).alloc (Nat.le_refl _) _)
  have R1 : Hid (Row (w.alloc (.cells (m.cells p) 32)) w.heap.size 32 (m.cells p).toList) := hid (Row.new _ _ _)
  by_cases hr : rightM m
  · rw [decide_eq_true hr] at HR
    have HBD : Hid (∀ W, Below w.heap.size w W → Calls Tryz.prog 39 #[.agg (m.cells p)] W (SE W (bodyM m))) := hid fun W hW =>
      body17_any m p B W ⟨hm.a.below hW hB, hm.b.below hW hB, hm.la, hm.lb, hm.ca, hm.cb⟩ (Nat.le_trans hB hW.size) hf hr
    have HPK : Hid (∀ W, Calls Tryz.prog 33 #[.agg (hdM m).cells, .string ⟨(bodyM m).toArray⟩] W (SN W (encM m))) := hid fun W => by
      have h := rpack_any (hdM m) (hdM_fits hf) ⟨(bodyM m).toArray⟩ W
      rw [sb_mk] at h
      unfold encM
      rw [if_pos hr]
      exact h
    obtain ⟨T, f, hT⟩ : ∃ T f, encM m = (T, f) := ⟨_, _, rfl⟩
    rw [hT] at HPK ⊢
    generalize bodyM m = Y at HBD HPK
    have HQ13 : Hid (m.kind = 13 → hdM m = { hdI m with b := m.size }) := hid (fun h => by unfold hdI hdM; rw [if_pos h])
    have HQN : Hid (m.kind ≠ 13 → hdM m = hdI m) := hid (fun h => by unfold hdI hdM; rw [if_neg h])
    obtain ⟨c13, hc13⟩ : ∃ c, (m.kind == 13) = c := ⟨_, rfl⟩
    clear hr hf hm hT
    go_enter Tryz.func17, Tryz.ntmps17
    go_upto_if 33 with (first
      | ((with_reducible show wpList _ _ _ ({ dst := some 5, op := _, type := _, pos := _, after := _, guard := _ } :: _) _ _); refine wpList_load_row rfl 32 (.tmp 1) rfl w.heap.size rfl 32 (m.cells p) (0, 0) _ (Row.arr R1.out) Tryz.underlying32 rfl HZS.out ?_)
      | (go_at_call 38; refine (HR.out _ HB0.out).mono ?_; rintro e w1 ⟨rfl, hb1⟩; have R2 := hid (R1.out.below hb1 R1.out.lt); have HB2 := hid (HB0.out.trans (hb1.mono HB0.out.size)); have c0 : w1.cell? ⟨w.heap.size, 0, none⟩ = some (.int .i64 m.kind) := R2.out.cell 0; have c1 : w1.cell? ⟨w.heap.size, 1, none⟩ = some (.int .i64 m.frm) := R2.out.cell 1; have c9 : w1.cell? ⟨w.heap.size, 9, none⟩ = some (.int .i64 m.oper) := R2.out.cell 9; have c2 : w1.cell? ⟨w.heap.size, 2, none⟩ = some (.int .i64 m.view) := R2.out.cell 2; have c4 : w1.cell? ⟨w.heap.size, 4, none⟩ = some (.int .i64 m.opn) := R2.out.cell 4; have c5 : w1.cell? ⟨w.heap.size, 5, none⟩ = some (.int .i64 m.commit) := R2.out.cell 5; have c6 : w1.cell? ⟨w.heap.size, 6, none⟩ = some (.int .i64 m.client) := R2.out.cell 6; have c7 : w1.cell? ⟨w.heap.size, 7, none⟩ = some (.int .i64 m.session) := R2.out.cell 7; have c8 : w1.cell? ⟨w.heap.size, 8, none⟩ = some (.int .i64 m.request) := R2.out.cell 8; have c3 : w1.cell? ⟨w.heap.size, 3, none⟩ = some (.int .i64 m.lv) := R2.out.cell 3; have c10 : w1.cell? ⟨w.heap.size, 10, none⟩ = some (.int .i64 m.index) := R2.out.cell 10)
      | ((with_reducible show wpList _ _ _ ({ dst := none, op := .store _ (.tmp 4) _, type := _, pos := _, after := _, guard := _ } :: _) _ _); refine wpl_store_st rfl (.tmp 4) (.tmp 30) rfl HZH.out w1.heap.size #[.int .i64 0, .int .i64 0, .int .i64 0, .int .i64 0, .int .i64 0, .int .i64 0, .int .i64 0, .int .i64 0, .int .i64 0, .int .i64 0, .int .i64 0, .int .u64 0] (hdI m).cells rfl rfl (Row.new _ _ _) ?_ (hid rfl) (hid rfl) (hid (by simp [Hd.cells, Value.oneCell'])); intro w5 hr5 hg5; have RH := hid hr5; have R3 := hid ((R2.out.alloc (.cells #[.int .i64 0, .int .i64 0, .int .i64 0, .int .i64 0, .int .i64 0, .int .i64 0, .int .i64 0, .int .i64 0, .int .i64 0, .int .i64 0, .int .i64 0, .int .u64 0] 42)).grown hg5 (by intro e; have := Option.some.inj e; have := R2.out.lt; omega)); have HB3 := hid ((HB2.out.alloc HB2.out.size (.cells #[.int .i64 0, .int .i64 0, .int .i64 0, .int .i64 0, .int .i64 0, .int .i64 0, .int .i64 0, .int .i64 0, .int .i64 0, .int .i64 0, .int .i64 0, .int .u64 0] 42)).trans (below_grown hg5 HB2.out.size (by simp; exact Nat.le_succ_of_le HB2.out.size))); have k0 : w5.cell? ⟨w.heap.size, 0, none⟩ = some (.int .i64 m.kind) := R3.out.cell 0; clear c0 c1 c9 c2 c4 c5 c6 c7 c8 c3 c10))
    have HC13 := hid hc13
    have HLT := hid R2.out.lt
    have hlw := RH.out.lt
    clear hc13 hb1 hr5 hg5 R2 HB2 R1 HB0
    go_cut [35] from 34 to 36 (fun _ wx => ∃ W1 : World, W1 = wx ∧ Hid (Row W1 w1.heap.size 42 (hdM m).cells.toList) ∧ Hid (Row W1 w.heap.size 32 (m.cells p).toList) ∧ Hid (Below w.heap.size w W1))
    case first =>
      cases c13
      case false =>
        have HQ := hid (HQN.out (fun h => by have := HC13.out; rw [h] at this; cases this))
        go_wp2_with fail
        go_meet
        exact ⟨w5, rfl, hid (by rw [HQ.out]; exact RH.out), R3, HB3⟩
      case true =>
        have HQ := hid (HQ13.out (by have := HC13.out; simpa using this))
        have k11 : w5.cell? ⟨w.heap.size, 11, none⟩ = some (.int .i64 m.size) := R3.out.cell 11
        go_wp2_with ((with_reducible show wpList _ _ _ ({ dst := none, op := .store _ (.tmp 36) _, type := _, pos := _, after := _, guard := _ } :: _) _ _); refine wpl_st1 rfl 3 (.tmp 36) (.tmp 35) rfl w1.heap.size 10 (.int .i64 m.size) rfl rfl RH sizeInt ?_ (hid (by simp [Hd.cells])) (hid rfl); intro w6 RX hg6; have R4 := hid (R3.out.grown hg6 (by intro e; have := Option.some.inj e; have := HLT.out; omega)); have HB4 := hid (HB3.out.trans (below_grown hg6 (by have := HLT.out; omega) HB3.out.size)))
        go_meet
        exact ⟨w6, rfl, hid (by rw [HQ.out]; exact RX.out), R4, HB4⟩
    case rest =>
    clear RH R3 HB3 k0
    obtain ⟨W1, rfl, RH, R3, HB3⟩ := hcut
    clear HQ13 HQN HC13 hlw
    go_wp2_with fail
    refine wp_region_held_drew (S := (fun W => Row W w1.heap.size 42 (hdM m).cells.toList ∧ Row W w.heap.size 32 (m.cells p).toList ∧ Below w.heap.size w W)) (by kernel_rfl) (⟨RH.out.drew, R3.out.drew, HB3.out.drew⟩) (fun hH => ?_)
    refine tk_ (i := 0) (v := .agg ((hdM m).cells)) rfl (yieldsIf_load_mid (by kernel_rfl) 42 (.tmp 4) rfl (w1.heap.size) (0) rfl (Array.toList ((hdM m).cells)) _ (fun W hW => Row.range hW.1) Tryz.underlying42 rfl (by exact HZH.out)) hH ?_
    simp only [Act.put, la1, la3, la4, la5, la6]
    refine tk_ (i := 1) (v := .agg (m.cells p)) rfl (yieldsIf_load_mid (by kernel_rfl) 32 (.tmp 1) rfl (w.heap.size) (0) rfl (Array.toList (m.cells p)) _ (fun W hW => Row.range hW.2.1) Tryz.underlying32 rfl (by exact HZS.out)) hH ?_
    simp only [Act.put, la1, la2, la3, la4, la5, la6]
    refine rd1 (i := 2) (by kernel_rfl) rfl (fun K hK => ?_)
    go_simp
    go_at_call 39
    refine (HBD.out _ hH.2.2).mono ?_
    rintro e w2 ⟨rfl, hb1⟩
    go_wp2_with fail
    refine hK.out _ _ (⟨hH.1.below hb1 hH.1.lt, hH.2.1.below hb1 hH.2.1.lt, hH.2.2.trans (hb1.mono hH.2.2.size)⟩) (fun hH => ?_)
    clear hK K
    try simp only [Act.put, la1, la2, la3, la4, la5, la6]
    refine rd1 (i := 3) (by kernel_rfl) rfl (fun K hK => ?_)
    go_simp
    go_at_call 33
    refine (HPK.out _).mono ?_
    rintro e w3 ⟨rfl, hb1⟩
    go_wp2_with fail
    refine hK.out _ _ (⟨hH.1.below hb1 hH.1.lt, hH.2.1.below hb1 hH.2.1.lt, hH.2.2.trans (hb1.mono hH.2.2.size)⟩) (fun hH => ?_)
    clear hK K
    try simp only [Act.put, la1, la2, la3, la4, la5, la6]
    refine tk_ (i := 4) (v := .string ⟨T.toArray⟩) rfl (Or.inl ⟨by rfl, fun w' hw' => by clear hw'; go_simp⟩) hH ?_
    simp only [Act.put, la1, la2, la3, la4, la5, la6]
    refine tk_ (i := 5) (v := .int .i64 f) rfl (Or.inl ⟨by rfl, fun w' hw' => by clear hw'; go_simp⟩) hH ?_
    simp only [Act.put, la1, la2, la3, la4, la5, la6]
    refine rd1 (i := 6) (by kernel_rfl) rfl (fun K hK => ?_)
    go_simp
    refine hK.out _ _ (hH) (fun hH => ?_)
    clear hK K
    try simp only [Act.put, la1, la2, la3, la4, la5, la6]
    refine rd1 (i := 7) (by kernel_rfl) rfl (fun K hK => ?_)
    go_simp
    refine hK.out _ _ (hH) (fun hH => ?_)
    clear hK K
    try simp only [Act.put, la1, la2, la3, la4, la5, la6]
    refine wpAnyH_done (by kernel_rfl) ?_ _
    try simp only [Act.put, la1, la2, la3, la4, la5, la6]
    go_wp2_with fail
    go_ret2
    exact ⟨rfl, hH.2.2⟩
  · rw [decide_eq_false hr] at HR
    rw [enc_no hr]
    clear hr hf hm
    go_enter Tryz.func17, Tryz.ntmps17
    go_wp2_with (first
      | ((with_reducible show wpList _ _ _ ({ dst := some 5, op := _, type := _, pos := _, after := _, guard := _ } :: _) _ _); refine wpList_load_row rfl 32 (.tmp 1) rfl w.heap.size rfl 32 (m.cells p) (0, 0) _ (Row.arr R1.out) Tryz.underlying32 rfl HZS.out ?_)
      | (go_at_call 38; refine (HR.out _ HB0.out).mono ?_; rintro e w1 ⟨rfl, hb1⟩))
    go_ret2
    exact ⟨rfl, HB0.out.trans (hb1.mono HB0.out.size)⟩
end Go.Proofs.YtcildaeiogdfdaaGreatDoor
