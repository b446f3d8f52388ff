/-
  The document's Decode.
-/
import Derived.Test.YtcildaeiogdfdaaGreatDoorZ26
import Derived.Test.YtcildaeiogdfdaaGreatDoorZ25
import Derived.Test.YtcildaeiogdfdaaGreatDoorZ16
import Derived.Deep.CutRange
namespace Go.Proofs.YtcildaeiogdfdaaGreatDoor
open Go.RowKit
set_option maxRecDepth 10000

def p0M : Pl := ⟨none, 0, none, 0⟩
def d0M (h : Hd) : Ms := ⟨h.kind, h.frm, h.view, h.a, h.opn, h.commit, h.client, h.session, h.request, h.oper, 0, 0, mk0, z6, en0, [], [], ⟨#[]⟩⟩
/-- a message, and its lists -/
def DM (w : World) (r : Ms × Int) (e : Ending) (w' : World) : Prop :=
  ∃ p, e = .returned (.tuple #[.agg (r.1.cells p), .int .i64 r.2]) ∧ PlOk w' w'.heap.size r.1 p ∧ Below w.heap.size w w'
theorem d0_cells (h : Hd) : ((((((((((z33.setIfInBounds 0 (.int .i64 h.kind)).setIfInBounds 1 (.int .i64 h.frm)).setIfInBounds 9 (.int .i64 h.oper)).setIfInBounds 2 (.int .i64 h.view)).setIfInBounds 4 (.int .i64 h.opn)).setIfInBounds 5 (.int .i64 h.commit)).setIfInBounds 6 (.int .i64 h.client)).setIfInBounds 7 (.int .i64 h.session)).setIfInBounds 8 (.int .i64 h.request)).setIfInBounds 3 (.int .i64 h.a)) = (d0M h).cells p0M := by kernel_rfl
def dcM (s : List UInt8) (h : Hd) (b : List UInt8) : Ms × Int := match parseM h b with | none => (ms0, 4) | some m => if encM m = (s, 0) then (m, 0) else (ms0, 4)
theorem pl0 (w : World) (D : Nat) : PlOk w D ms0 p0M := ⟨Rd.nil, Rd.nil, by decide, by decide, by decide, by decide⟩
theorem dc_short {s : List UInt8} {h : Hd} {b : List UInt8} (hk : kChk h.kind = true) (hl : b.length < 24) : dcM s h b = (ms0, 4) := by
  unfold dcM parseM
  rw [if_pos ⟨hk, hl⟩]
def sK (b : List UInt8) (k : Nat) : List Nat := [if 0 < k then at8 b 24 else 0, if 1 < k then at8 b 32 else 0, if 2 < k then at8 b 40 else 0, if 3 < k then at8 b 48 else 0, if 4 < k then at8 b 56 else 0, if 5 < k then at8 b 64 else 0]
theorem sK_six (b : List UInt8) : sK b 6 = sumsP b := rfl
theorem own_grownM {w w' : World} {B g : Nat} {e : TypeId} {size n : Nat} {v : Value} {xs : List Value} (h : w.ownsRow B e size v n xs) (hg : w.grownBy w' (some g)) (hlt : g < B) : w'.ownsRow B e size v n xs := by
  obtain ⟨h1, h2⟩ := h
  refine ⟨h1, ?_⟩
  rcases h2 with h2 | ⟨k, cap, cur, hv, hk, hh, r⟩
  · exact .inl h2
  · exact .inr ⟨k, cap, cur, hv, hk, by rw [hg.block k (Array.getElem?_eq_some_iff.1 hh).1 (by intro e; have := Option.some.inj e; omega)]; exact hh, r⟩
theorem own_weakM {w : World} {B B' : Nat} {e : TypeId} {size n : Nat} {v : Value} {xs : List Value} (h : w.ownsRow B e size v n xs) (hB : B' ≤ B) : w.ownsRow B' e size v n xs := by
  obtain ⟨h1, h2⟩ := h
  refine ⟨h1, ?_⟩
  rcases h2 with h2 | ⟨k, cap, cur, hv, hk, hh, r⟩
  · exact .inl h2
  · exact .inr ⟨k, cap, cur, hv, by omega, hh, r⟩
theorem own_nilM (w : World) (B size : Nat) (e : TypeId) : w.ownsRow B e size (.slice none 0 0) 0 [] := ⟨by simp, .inl ⟨rfl, rfl⟩⟩
theorem chk_ent {k : Int} (h : kEnt k = true) : kChk k = false := by
  unfold kEnt at h
  simp at h
  rcases h with rfl | rfl <;> rfl
theorem chk_log {k : Int} (h : kLog k = true) : kChk k = true := by
  unfold kLog at h
  have := eq_of_beq h; subst this; rfl
theorem dc_short25 {s : List UInt8} {h : Hd} {b : List UInt8} (hk : kEs h.kind = true) (hl : b.length < 25) : dcM s h b = (ms0, 4) := by
  have hE : kEnt h.kind = false := by
    unfold kEs at hk
    have := eq_of_beq hk
    rw [this]; rfl
  have hp : parseM h b = none := by
    unfold parseM
    split
    · rfl
    · simp [hE, List.getElem?_eq_none (show b.length ≤ 24 by omega)]
  unfold dcM
  rw [hp]
theorem dcM_eq (s : List UInt8) (h : Hd) (b : List UInt8) (e : unpackS s = (h, b, 0)) : decM s = dcM s h b := by
  unfold decM dcM
  rw [e, if_pos rfl]
  rfl
theorem ms0_cells : z33 = ms0.cells p0M := rfl
set_option maxHeartbeats 4000000 in
theorem dec17_ok (s : ByteArray) (h : Hd) (T : ByteArray) (w : World) (hT : T.size ≤ 100000) (hh : Hid h.fits)
    (HU : Hid (∀ W : World, Calls Tryz.prog 13 #[.string s] W fun x W' => x = .returned (.tuple #[h.val, .string T, .int .i64 0]) ∧ Below W.heap.size W W')) :
    Calls Tryz.prog 6 #[.string s] w (DM w (dcM (sb s) h (sb T))) := by
  have HZS := hid mssize
  have HZH := hid hsize17
  have hz := zero33
  have hzs := z33_size
  have hzn := z33_ne
  have HT := hid hT
  have HB0 : Hid (Below w.heap.size w (w.alloc (.cells z33 32))) := hid ((Below.refl _ _).alloc (Nat.le_refl _) _)
  have R0 : Hid (Row (w.alloc (.cells z33 32)) w.heap.size 32 z33.toList) := hid (Row.new _ _ _)
  clear hT
  go_enter Tryz.func6, Tryz.ntmps6
  go_upto_region 7 with (first
    | (go_at_call 13; refine (HU.out _).mono ?_; rintro e w1 ⟨rfl, hb1⟩; have R1 := hid (R0.out.below hb1 R0.out.lt); have HB1 := hid (HB0.out.trans (hb1.mono HB0.out.size)); clear hb1)
    | (refine wpl_store_head rfl (.tmp 4) (.tmp 25) rfl w1.heap.size h rfl rfl (Row.new _ _ _) ?_; intro w2 hr2 hg2; have hl1 := R1.out.lt; have R2 := hid ((R1.out.alloc (.cells #[.int .i64 0, .int .i64 0, .int .i64 0, .int .i64 0, .int .i64 0, .int .i64 0, .int .i64 0, .int .i64 0, .int .i64 0, .int .i64 0, .int .i64 0, .int .u64 0] 42)).grown hg2 (by intro e; have := Option.some.inj e; omega)); have HB2 := hid ((HB1.out.alloc HB1.out.size _).trans (below_grown hg2 HB1.out.size (by have := HB1.out.size; simp; omega))); have RH := hid hr2; have k0 : w2.cell? ⟨w1.heap.size, 0, none⟩ = some (.int .i64 h.kind) := RH.out.cell 0; have k1 : w2.cell? ⟨w1.heap.size, 1, none⟩ = some (.int .i64 h.frm) := RH.out.cell 1; have k2 : w2.cell? ⟨w1.heap.size, 2, none⟩ = some (.int .i64 h.oper) := RH.out.cell 2; have k3 : w2.cell? ⟨w1.heap.size, 3, none⟩ = some (.int .i64 h.view) := RH.out.cell 3; have k4 : w2.cell? ⟨w1.heap.size, 4, none⟩ = some (.int .i64 h.opn) := RH.out.cell 4; have k5 : w2.cell? ⟨w1.heap.size, 5, none⟩ = some (.int .i64 h.commit) := RH.out.cell 5; have k6 : w2.cell? ⟨w1.heap.size, 6, none⟩ = some (.int .i64 h.client) := RH.out.cell 6; have k7 : w2.cell? ⟨w1.heap.size, 7, none⟩ = some (.int .i64 h.session) := RH.out.cell 7; have k8 : w2.cell? ⟨w1.heap.size, 8, none⟩ = some (.int .i64 h.request) := RH.out.cell 8; have k9 : w2.cell? ⟨w1.heap.size, 9, none⟩ = some (.int .i64 h.a) := RH.out.cell 9; clear hr2 hg2)
    | ((with_reducible show wpList _ _ _ ({ dst := none, op := .store _ (.tmp 7) _, type := _, pos := _, after := _, guard := _ } :: _) _ _); refine wpl_store_st rfl (.tmp 7) (.tmp 51) rfl HZS.out w2.heap.size z33 (((((((((((z33.setIfInBounds 0 (.int .i64 h.kind)).setIfInBounds 1 (.int .i64 h.frm)).setIfInBounds 9 (.int .i64 h.oper)).setIfInBounds 2 (.int .i64 h.view)).setIfInBounds 4 (.int .i64 h.opn)).setIfInBounds 5 (.int .i64 h.commit)).setIfInBounds 6 (.int .i64 h.client)).setIfInBounds 7 (.int .i64 h.session)).setIfInBounds 8 (.int .i64 h.request)).setIfInBounds 3 (.int .i64 h.a))) rfl rfl (Row.new _ _ _) ?_ (hid (by simp [z33])) (hid (by simp [z33])) (hid (by rw [d0_cells]; simp [Ms.cells, d0M, Value.oneCell'])); intro w3 hr3 hg3; rw [d0_cells] at hr3; have RM := hid hr3; have hl2 := RH.out.lt; have hl3 := R2.out.lt; have RZ := hid ((R2.out.alloc (.cells z33 32)).grown hg3 (by intro e; have := Option.some.inj e; omega)); have HB := hid ((HB2.out.alloc HB2.out.size _).trans (below_grown hg3 HB2.out.size (by have := HB2.out.size; simp; omega))); have RH3 := hid ((RH.out.alloc (.cells z33 32)).grown hg3 (by intro e; have := Option.some.inj e; omega)); clear k0 k1 k2 k3 k4 k5 k6 k7 k8 k9 RH hr3 hg3 HB2 R2; have k0 : w3.cell? ⟨w2.heap.size, 0, none⟩ = some (.int .i64 h.kind) := RM.out.cell 0))
  have RH := RH3
  have hH1 : w.heap.size < w1.heap.size := hl1
  have hH2 : w1.heap.size < w2.heap.size := hl2
  have HH := hid hH1
  have HG := hid hH2
  clear RH3 hl1 hl2 hl3 hz hzs hzn R1 R0 HB0 HB1 hH1 hH2 k0
  have W1e : ∃ W1 : World, W1 = w3 := ⟨_, rfl⟩
  obtain ⟨W1, rfl⟩ := W1e
  have k0 : W1.cell? ⟨w2.heap.size, 0, none⟩ = some (.int .i64 h.kind) := RM.out.cell 0
  go_upto_region 7 with fail
  go_cut [59] from 54 to 59 (fun b wx => ∃ (W1 : World) (ck : Bool), W1 = wx ∧ b = .bool ck ∧ Hid (kIdx h.kind = ck) ∧ Hid (Row W1 w1.heap.size 42 h.cells.toList) ∧ Hid (Row W1 w2.heap.size 32 ((d0M h).cells p0M).toList) ∧ Hid (Row W1 w.heap.size 32 z33.toList) ∧ Hid (Below w.heap.size w W1))
  case first =>
    cases h14 : (h.kind == 14)
    case true =>
      go_wp2_with fail
      go_meet
      exact ⟨_, _, rfl, rfl, hid (by simp [kIdx, h14]), RH, RM, RZ, HB⟩
    cases h15 : (h.kind == 15)
    case true =>
      go_wp2_with fail
      go_meet
      exact ⟨_, _, rfl, rfl, hid (by simp [kIdx, h14, h15]), RH, RM, RZ, HB⟩
    go_wp2_with fail
    go_meet
    exact ⟨_, _, rfl, rfl, hid (by simp [kIdx, h14, h15]), RH, RM, RZ, HB⟩
  case rest =>
  clear RH RM RZ HB
  obtain ⟨W1, ck, rfl, rfl, HCK, RH, RM, RZ, HB⟩ := hcut
  go_upto_if 59 with fail
  go_cut [] from 60 to 62 (fun wx => ∃ W1 : World, W1 = wx ∧ Hid (Row W1 w1.heap.size 42 h.cells.toList) ∧ Hid (Row W1 w2.heap.size 32 (({ d0M h with index := ifI (kIdx h.kind) h.b }).cells p0M).toList) ∧ Hid (Row W1 w.heap.size 32 z33.toList) ∧ Hid (Below w.heap.size w W1))
  case first =>
    cases ck
    case false =>
      go_wp2_with fail
      go_meet
      exact ⟨_, rfl, RH, hid (by rw [HCK.out]; exact RM.out), RZ, HB⟩
    case true =>
      have kb : W1.cell? ⟨w1.heap.size, 10, none⟩ = some (.int .i64 h.b) := RH.out.cell 10
      go_wp2_with ((with_reducible show wpList _ _ _ ({ dst := none, op := .store _ (.tmp 62) _, type := _, pos := _, after := _, guard := _ } :: _) _ _); refine wpl_st1 rfl 3 (.tmp 62) (.tmp 61) rfl w2.heap.size 10 (.int .i64 h.b) rfl rfl RM sizeInt ?_ (hid (by simp [Ms.cells])) (hid rfl); intro w6 RX hg; have RH := hid (RH.out.grown hg (by intro e; have := Option.some.inj e; have := HG.out; omega)); have RZ := hid (RZ.out.grown hg (by intro e; have := Option.some.inj e; have := HH.out; have := HG.out; omega)); have HB := hid (HB.out.trans (below_grown hg (by have := HH.out; have := HG.out; omega) HB.out.size)))
      go_meet
      exact ⟨_, rfl, RH, hid (by rw [HCK.out]; exact RX.out), RZ, HB⟩
  case rest =>
  clear RH RM RZ HB HCK
  obtain ⟨W1, rfl, RH, RM, RZ, HB⟩ := hcut
  have k0 : W1.cell? ⟨w2.heap.size, 0, none⟩ = some (.int .i64 h.kind) := RM.out.cell 0
  go_upto_region 9 with fail
  go_cut [64] from 63 to 64 (fun b wx => ∃ (W1 : World) (ck : Bool), W1 = wx ∧ b = .bool ck ∧ Hid (kSz h.kind = ck) ∧ Hid (Row W1 w1.heap.size 42 h.cells.toList) ∧ Hid (Row W1 w2.heap.size 32 (({ d0M h with index := ifI (kIdx h.kind) h.b }).cells p0M).toList) ∧ Hid (Row W1 w.heap.size 32 z33.toList) ∧ Hid (Below w.heap.size w W1))
  case first =>
    go_wp2_with fail
    go_meet
    exact ⟨_, _, rfl, rfl, hid rfl, RH, RM, RZ, HB⟩
  case rest =>
  clear RH RM RZ HB
  obtain ⟨W1, ck, rfl, rfl, HCK, RH, RM, RZ, HB⟩ := hcut
  go_upto_if 64 with fail
  go_cut [] from 65 to 67 (fun wx => ∃ W1 : World, W1 = wx ∧ Hid (Row W1 w1.heap.size 42 h.cells.toList) ∧ Hid (Row W1 w2.heap.size 32 (({ d0M h with index := ifI (kIdx h.kind) h.b, size := ifI (kSz h.kind) h.b }).cells p0M).toList) ∧ Hid (Row W1 w.heap.size 32 z33.toList) ∧ Hid (Below w.heap.size w W1))
  case first =>
    cases ck
    case false =>
      go_wp2_with fail
      go_meet
      exact ⟨_, rfl, RH, hid (by rw [HCK.out]; exact RM.out), RZ, HB⟩
    case true =>
      have kb : W1.cell? ⟨w1.heap.size, 10, none⟩ = some (.int .i64 h.b) := RH.out.cell 10
      go_wp2_with ((with_reducible show wpList _ _ _ ({ dst := none, op := .store _ (.tmp 67) _, type := _, pos := _, after := _, guard := _ } :: _) _ _); refine wpl_st1 rfl 3 (.tmp 67) (.tmp 66) rfl w2.heap.size 11 (.int .i64 h.b) rfl rfl RM sizeInt ?_ (hid (by simp [Ms.cells])) (hid rfl); intro w6 RX hg; have RH := hid (RH.out.grown hg (by intro e; have := Option.some.inj e; have := HG.out; omega)); have RZ := hid (RZ.out.grown hg (by intro e; have := Option.some.inj e; have := HH.out; have := HG.out; omega)); have HB := hid (HB.out.trans (below_grown hg (by have := HH.out; have := HG.out; omega) HB.out.size)))
      go_meet
      exact ⟨_, rfl, RH, hid (by rw [HCK.out]; exact RX.out), RZ, HB⟩
  case rest =>
  clear RH RM RZ HB HCK
  obtain ⟨W1, rfl, RH, RM, RZ, HB⟩ := hcut
  have k0 : W1.cell? ⟨w2.heap.size, 0, none⟩ = some (.int .i64 h.kind) := RM.out.cell 0
  go_upto_region 11 with fail
  go_cut [85] from 68 to 85 (fun b wx => ∃ (W1 : World) (ck : Bool), W1 = wx ∧ b = .bool ck ∧ Hid (kChk h.kind = ck) ∧ Hid (Row W1 w1.heap.size 42 h.cells.toList) ∧ Hid (Row W1 w2.heap.size 32 (({ d0M h with index := ifI (kIdx h.kind) h.b, size := ifI (kSz h.kind) h.b }).cells p0M).toList) ∧ Hid (Row W1 w.heap.size 32 z33.toList) ∧ Hid (Below w.heap.size w W1))
  case first =>
    cases h7 : (h.kind == 7)
    case true =>
      go_wp2_with fail
      go_meet
      exact ⟨_, _, rfl, rfl, hid (by simp [kChk, h7]), RH, RM, RZ, HB⟩
    cases h8 : (h.kind == 8)
    case true =>
      go_wp2_with fail
      go_meet
      exact ⟨_, _, rfl, rfl, hid (by simp [kChk, h7, h8]), RH, RM, RZ, HB⟩
    cases h13 : (h.kind == 13)
    case true =>
      go_wp2_with fail
      go_meet
      exact ⟨_, _, rfl, rfl, hid (by simp [kChk, h7, h8, h13]), RH, RM, RZ, HB⟩
    cases h14 : (h.kind == 14)
    case true =>
      go_wp2_with fail
      go_meet
      exact ⟨_, _, rfl, rfl, hid (by simp [kChk, h7, h8, h13, h14]), RH, RM, RZ, HB⟩
    cases h15 : (h.kind == 15)
    case true =>
      go_wp2_with fail
      go_meet
      exact ⟨_, _, rfl, rfl, hid (by simp [kChk, h7, h8, h13, h14, h15]), RH, RM, RZ, HB⟩
    go_wp2_with fail
    go_meet
    exact ⟨_, _, rfl, rfl, hid (by simp [kChk, h7, h8, h13, h14, h15]), RH, RM, RZ, HB⟩
  case rest =>
  clear RH RM RZ HB
  obtain ⟨W1, ck, rfl, rfl, HCK, RH, RM, RZ, HB⟩ := hcut
  have RC : Hid (Row W1 w2.heap.size 32 ((cM h mk0 z6 en0 [] [] ⟨#[]⟩).cells p0M).toList) := RM
  clear RM
  have RM := RC
  clear RC k0
  go_upto_if 85 with fail
  go_cut [9] from 86 to 99 (fun a wx => ∃ (W1 : World) (a9 : Int), W1 = wx ∧ a = .int .i64 a9 ∧ Hid (a9 = if kChk h.kind = true then 24 else 0) ∧ Hid (kChk h.kind = true → 24 ≤ T.size) ∧ Hid (Row W1 w1.heap.size 42 h.cells.toList) ∧ Hid (Row W1 w2.heap.size 32 ((cM h (if kChk h.kind = true then chkP (sb T) else mk0) z6 en0 [] [] ⟨#[]⟩).cells p0M).toList) ∧ Hid (Row W1 w.heap.size 32 z33.toList) ∧ Hid (Below w.heap.size w W1))
  case first =>
    cases ck
    case false =>
      go_wp2_with fail
      go_meet
      exact ⟨_, _, rfl, rfl, hid (by rw [HCK.out]; rfl), hid (fun e => by have := HCK.out; rw [e] at this; cases this), RH, hid (by rw [HCK.out]; exact RM.out), RZ, HB⟩
    case true =>
      by_cases hl : T.size < 24
      · have hli : (T.size : Int) < 24 := by omega
        have hz := zero33
        have hzs := z33_size
        have hzn := z33_ne
        have HD := hid (dc_short (s := sb s) HCK.out (by rw [sb_len]; exact hl))
        clear hl
        go_wp2_with ((with_reducible show wpList _ _ _ ({ dst := none, op := .store _ (.tmp 2) _, type := _, pos := _, after := _, guard := _ } :: _) _ _); refine wpl_store_st rfl (.tmp 2) (.tmp 89) rfl HZS.out w.heap.size z33 z33 rfl rfl RZ.out ?_ (hid (by simp [z33])) (hid rfl) (hid (by rw [ms0_cells]; simp [Ms.cells, ms0, Value.oneCell', en0, mk0])); intro wz hrz hgz; have HBZ := hid (HB.out.trans (below_grown hgz (Nat.le_refl _) HB.out.size)))
        refine bodyPost_ret (v := .tuple #[.agg (ms0.cells p0M), .int .i64 4]) (results_cell1 rfl _ _ w.heap.size 32 z33 (0, 0) _ (.int .i64 4) rfl rfl (Row.arr hrz) Tryz.underlying32 rfl HZS.out) rfl ⟨p0M, by rw [HD.out], by rw [HD.out]; exact pl0 _ _, HBZ.out⟩
      · have hli : (24 : Int) ≤ (T.size : Int) := by omega
        have HA0 : Hid (∀ W, Calls Tryz.prog 14 #[.string T, .int .i64 0] W (VE W (.int .u64 ((at8 (sb T) 0 : Nat) : Int)))) := hid fun W => at_any T 0 W (by omega) (by have := HT.out; omega)
        have HA1 : Hid (∀ W, Calls Tryz.prog 14 #[.string T, .int .i64 8] W (VE W (.int .u64 ((at8 (sb T) 8 : Nat) : Int)))) := hid fun W => at_any T 8 W (by omega) (by have := HT.out; omega)
        have HA2 : Hid (∀ W, Calls Tryz.prog 14 #[.string T, .int .i64 16] W (VE W (.int .u64 ((at8 (sb T) 16 : Nat) : Int)))) := hid fun W => at_any T 16 W (by omega) (by have := HT.out; omega)
        have HLE : Hid (24 ≤ T.size) := hid (by omega)
        have HCP : Hid (chkP (sb T) = ⟨sg (at8 (sb T) 0), sg (at8 (sb T) 8), at8 (sb T) 16⟩) := hid rfl
        generalize at8 (sb T) 0 = n0 at HA0 HCP
        generalize at8 (sb T) 8 = n1 at HA1 HCP
        generalize at8 (sb T) 16 = n2 at HA2 HCP
        clear hl
        go_wp2_with (first
          | (go_at_call 14; (with_reducible show Calls _ _ #[_, Value.int IntKind.i64 0] _ _); refine (HA0.out _).mono ?_; rintro e wa0 ⟨rfl, hb⟩; have RH := hid (RH.out.below hb RH.out.lt); have RM := hid (RM.out.below hb RM.out.lt); have RZ := hid (RZ.out.below hb RZ.out.lt); have HB := hid (HB.out.trans (hb.mono HB.out.size)); clear hb)
          | (go_at_call 14; (with_reducible show Calls _ _ #[_, Value.int IntKind.i64 8] _ _); refine (HA1.out _).mono ?_; rintro e wa1 ⟨rfl, hb⟩; have RH := hid (RH.out.below hb RH.out.lt); have RM := hid (RM.out.below hb RM.out.lt); have RZ := hid (RZ.out.below hb RZ.out.lt); have HB := hid (HB.out.trans (hb.mono HB.out.size)); clear hb)
          | (go_at_call 14; (with_reducible show Calls _ _ #[_, Value.int IntKind.i64 16] _ _); refine (HA2.out _).mono ?_; rintro e wa2 ⟨rfl, hb⟩; have RH := hid (RH.out.below hb RH.out.lt); have RM := hid (RM.out.below hb RM.out.lt); have RZ := hid (RZ.out.below hb RZ.out.lt); have HB := hid (HB.out.trans (hb.mono HB.out.size)); clear hb)
          | ((with_reducible show wpList _ _ _ ({ dst := none, op := .store _ (.tmp 99) _, type := _, pos := _, after := _, guard := _ } :: _) _ _); refine wpl_store_at rfl (.tmp 99) (.tmp 98) rfl msize w2.heap.size 12 _ (Array.toList (⟨sg n0, sg n1, n2⟩ : Mk).cells) rfl rfl RM ?_ (hid (by simp [Ms.cells, Mk.cells])) (hid rfl) (hid (by simp [Mk.cells, Value.oneCell'])); intro w7 RX hg; have RH := hid (RH.out.grown hg (by intro e; have := Option.some.inj e; have := HG.out; omega)); have RZ := hid (RZ.out.grown hg (by intro e; have := Option.some.inj e; have := HH.out; have := HG.out; omega)); have HB := hid (HB.out.trans (below_grown hg (by have := HH.out; have := HG.out; omega) HB.out.size)); clear hg))
        go_meet
        exact ⟨_, _, rfl, rfl, hid (by rw [HCK.out]; rfl), hid (fun _ => HLE.out), RH, hid (by rw [HCK.out, if_pos rfl, HCP.out]; exact RX.out), RZ, HB⟩
  case rest =>
  clear RH RM RZ HB HCK
  obtain ⟨W1, a9, rfl, rfl, HA9, HL24, RH, RM, RZ, HB⟩ := hcut
  go_upto_region 17 with fail
  go_cut [106] from 100 to 106 (fun b wx => ∃ (W1 : World) (ck : Bool), W1 = wx ∧ b = .bool ck ∧ Hid (decide (kSz h.kind = true ∧ T.size = 72) = ck) ∧ Hid (Row W1 w1.heap.size 42 h.cells.toList) ∧ Hid (Row W1 w2.heap.size 32 ((cM h (if kChk h.kind = true then chkP (sb T) else mk0) z6 en0 [] [] ⟨#[]⟩).cells p0M).toList) ∧ Hid (Row W1 w.heap.size 32 z33.toList) ∧ Hid (Below w.heap.size w W1))
  case first =>
    cases h13 : (h.kind == 13)
    case false =>
      go_wp2_with fail
      go_meet
      exact ⟨_, _, rfl, rfl, hid (by simp [kSz, h13]), RH, RM, RZ, HB⟩
    case true =>
      by_cases hl : T.size = 72
      · have hb : ((T.size : Int) == 72) = true := by simp; omega
        go_wp2_with fail
        go_meet
        exact ⟨_, _, rfl, rfl, hid (by simp [kSz, h13, hl]), RH, RM, RZ, HB⟩
      · have hb : ((T.size : Int) == 72) = false := by simp; omega
        go_wp2_with fail
        go_meet
        exact ⟨_, _, rfl, rfl, hid (by simp [kSz, h13, hl]), RH, RM, RZ, HB⟩
  case rest =>
  clear RH RM RZ HB
  obtain ⟨W1, ck, rfl, rfl, HCK, RH, RM, RZ, HB⟩ := hcut
  go_upto_if 106 with fail
  go_cut [] from 107 to 118 (fun wx => ∃ W1 : World, W1 = wx ∧ Hid (Row W1 w1.heap.size 42 h.cells.toList) ∧ Hid (Row W1 w2.heap.size 32 ((cM h (if kChk h.kind = true then chkP (sb T) else mk0) (if kSz h.kind = true ∧ T.size = 72 then sumsP (sb T) else z6) en0 [] [] ⟨#[]⟩).cells p0M).toList) ∧ Hid (Row W1 w.heap.size 32 z33.toList) ∧ Hid (Below w.heap.size w W1))
  case first =>
    cases ck
    case false =>
      go_wp2_with fail
      go_meet
      exact ⟨_, rfl, RH, hid (by rw [if_neg (of_decide_eq_false HCK.out)]; exact RM.out), RZ, HB⟩
    case true =>
      have h72 : T.size = 72 := (of_decide_eq_true HCK.out).2
      have HAT : Hid (∀ (i : Nat) (W : World), i ≤ 64 → Calls Tryz.prog 14 #[.string T, .int .i64 (i : Int)] W (VE W (.int .u64 ((at8 (sb T) i : Nat) : Int)))) := hid fun i W hi => at_any T i W (by omega) (by omega)
      clear h72
      go_wp2_with fail
      go_loopw [11] (fun i wx => ∃ k : Nat, k ≤ 6 ∧ i = .int .i64 (k : Int) ∧ ∃ W1 : World, W1 = wx ∧ Hid (Row W1 w1.heap.size 42 h.cells.toList) ∧ Hid (Row W1 w2.heap.size 32 ((cM h (if kChk h.kind = true then chkP (sb T) else mk0) (sK (sb T) k) en0 [] [] ⟨#[]⟩).cells p0M).toList) ∧ Hid (Row W1 w.heap.size 32 z33.toList) ∧ Hid (Below w.heap.size w W1)) (fun i _ => 6 - (intOf i).toNat)
      case atStart => exact ⟨0, by omega, rfl, _, rfl, RH, RM, RZ, HB⟩
      case round =>
        clear RH RM RZ HB
        obtain ⟨k, hk, rfl, W1, rfl, RH, RM, RZ, HB⟩ := hrel
        obtain rfl | rfl | rfl | rfl | rfl | rfl | rfl : k = 0 ∨ k = 1 ∨ k = 2 ∨ k = 3 ∨ k = 4 ∨ k = 5 ∨ k = 6 := by omega
        · go_wp2_with (first
            | (go_at_call 14; refine (HAT.out 24 _ (by omega)).mono ?_; rintro e wa ⟨rfl, hb⟩; have RH := hid (RH.out.below hb RH.out.lt); have RM := hid (RM.out.below hb RM.out.lt); have RZ := hid (RZ.out.below hb RZ.out.lt); have HB := hid (HB.out.trans (hb.mono HB.out.size)); clear hb)
            | ((with_reducible show wpList _ _ _ ({ dst := none, op := .store _ (.tmp 118) _, type := _, pos := _, after := _, guard := _ } :: _) _ _); refine wpl_st1 rfl 23 (.tmp 118) (.tmp 116) rfl w2.heap.size 15 (.int .u64 ((at8 (sb T) 24 : Nat) : Int)) rfl rfl RM sizeU64 ?_ (hid (by simp [Ms.cells])) (hid rfl); intro w7 RX hg; have RH := hid (RH.out.grown hg (by intro e; have := Option.some.inj e; have := HG.out; omega)); have RZ := hid (RZ.out.grown hg (by intro e; have := Option.some.inj e; have := HH.out; have := HG.out; omega)); have HB := hid (HB.out.trans (below_grown hg (by have := HH.out; have := HG.out; omega) HB.out.size)); clear hg))
          go_roundw
          case rel => exact ⟨1, by omega, rfl, _, rfl, RH, RX, RZ, HB⟩
          case measure => simp [intOf]
        · go_wp2_with (first
            | (go_at_call 14; refine (HAT.out 32 _ (by omega)).mono ?_; rintro e wa ⟨rfl, hb⟩; have RH := hid (RH.out.below hb RH.out.lt); have RM := hid (RM.out.below hb RM.out.lt); have RZ := hid (RZ.out.below hb RZ.out.lt); have HB := hid (HB.out.trans (hb.mono HB.out.size)); clear hb)
            | ((with_reducible show wpList _ _ _ ({ dst := none, op := .store _ (.tmp 118) _, type := _, pos := _, after := _, guard := _ } :: _) _ _); refine wpl_st1 rfl 23 (.tmp 118) (.tmp 116) rfl w2.heap.size 16 (.int .u64 ((at8 (sb T) 32 : Nat) : Int)) rfl rfl RM sizeU64 ?_ (hid (by simp [Ms.cells])) (hid rfl); intro w7 RX hg; have RH := hid (RH.out.grown hg (by intro e; have := Option.some.inj e; have := HG.out; omega)); have RZ := hid (RZ.out.grown hg (by intro e; have := Option.some.inj e; have := HH.out; have := HG.out; omega)); have HB := hid (HB.out.trans (below_grown hg (by have := HH.out; have := HG.out; omega) HB.out.size)); clear hg))
          go_roundw
          case rel => exact ⟨2, by omega, rfl, _, rfl, RH, RX, RZ, HB⟩
          case measure => simp [intOf]
        · go_wp2_with (first
            | (go_at_call 14; refine (HAT.out 40 _ (by omega)).mono ?_; rintro e wa ⟨rfl, hb⟩; have RH := hid (RH.out.below hb RH.out.lt); have RM := hid (RM.out.below hb RM.out.lt); have RZ := hid (RZ.out.below hb RZ.out.lt); have HB := hid (HB.out.trans (hb.mono HB.out.size)); clear hb)
            | ((with_reducible show wpList _ _ _ ({ dst := none, op := .store _ (.tmp 118) _, type := _, pos := _, after := _, guard := _ } :: _) _ _); refine wpl_st1 rfl 23 (.tmp 118) (.tmp 116) rfl w2.heap.size 17 (.int .u64 ((at8 (sb T) 40 : Nat) : Int)) rfl rfl RM sizeU64 ?_ (hid (by simp [Ms.cells])) (hid rfl); intro w7 RX hg; have RH := hid (RH.out.grown hg (by intro e; have := Option.some.inj e; have := HG.out; omega)); have RZ := hid (RZ.out.grown hg (by intro e; have := Option.some.inj e; have := HH.out; have := HG.out; omega)); have HB := hid (HB.out.trans (below_grown hg (by have := HH.out; have := HG.out; omega) HB.out.size)); clear hg))
          go_roundw
          case rel => exact ⟨3, by omega, rfl, _, rfl, RH, RX, RZ, HB⟩
          case measure => simp [intOf]
        · go_wp2_with (first
            | (go_at_call 14; refine (HAT.out 48 _ (by omega)).mono ?_; rintro e wa ⟨rfl, hb⟩; have RH := hid (RH.out.below hb RH.out.lt); have RM := hid (RM.out.below hb RM.out.lt); have RZ := hid (RZ.out.below hb RZ.out.lt); have HB := hid (HB.out.trans (hb.mono HB.out.size)); clear hb)
            | ((with_reducible show wpList _ _ _ ({ dst := none, op := .store _ (.tmp 118) _, type := _, pos := _, after := _, guard := _ } :: _) _ _); refine wpl_st1 rfl 23 (.tmp 118) (.tmp 116) rfl w2.heap.size 18 (.int .u64 ((at8 (sb T) 48 : Nat) : Int)) rfl rfl RM sizeU64 ?_ (hid (by simp [Ms.cells])) (hid rfl); intro w7 RX hg; have RH := hid (RH.out.grown hg (by intro e; have := Option.some.inj e; have := HG.out; omega)); have RZ := hid (RZ.out.grown hg (by intro e; have := Option.some.inj e; have := HH.out; have := HG.out; omega)); have HB := hid (HB.out.trans (below_grown hg (by have := HH.out; have := HG.out; omega) HB.out.size)); clear hg))
          go_roundw
          case rel => exact ⟨4, by omega, rfl, _, rfl, RH, RX, RZ, HB⟩
          case measure => simp [intOf]
        · go_wp2_with (first
            | (go_at_call 14; refine (HAT.out 56 _ (by omega)).mono ?_; rintro e wa ⟨rfl, hb⟩; have RH := hid (RH.out.below hb RH.out.lt); have RM := hid (RM.out.below hb RM.out.lt); have RZ := hid (RZ.out.below hb RZ.out.lt); have HB := hid (HB.out.trans (hb.mono HB.out.size)); clear hb)
            | ((with_reducible show wpList _ _ _ ({ dst := none, op := .store _ (.tmp 118) _, type := _, pos := _, after := _, guard := _ } :: _) _ _); refine wpl_st1 rfl 23 (.tmp 118) (.tmp 116) rfl w2.heap.size 19 (.int .u64 ((at8 (sb T) 56 : Nat) : Int)) rfl rfl RM sizeU64 ?_ (hid (by simp [Ms.cells])) (hid rfl); intro w7 RX hg; have RH := hid (RH.out.grown hg (by intro e; have := Option.some.inj e; have := HG.out; omega)); have RZ := hid (RZ.out.grown hg (by intro e; have := Option.some.inj e; have := HH.out; have := HG.out; omega)); have HB := hid (HB.out.trans (below_grown hg (by have := HH.out; have := HG.out; omega) HB.out.size)); clear hg))
          go_roundw
          case rel => exact ⟨5, by omega, rfl, _, rfl, RH, RX, RZ, HB⟩
          case measure => simp [intOf]
        · go_wp2_with (first
            | (go_at_call 14; refine (HAT.out 64 _ (by omega)).mono ?_; rintro e wa ⟨rfl, hb⟩; have RH := hid (RH.out.below hb RH.out.lt); have RM := hid (RM.out.below hb RM.out.lt); have RZ := hid (RZ.out.below hb RZ.out.lt); have HB := hid (HB.out.trans (hb.mono HB.out.size)); clear hb)
            | ((with_reducible show wpList _ _ _ ({ dst := none, op := .store _ (.tmp 118) _, type := _, pos := _, after := _, guard := _ } :: _) _ _); refine wpl_st1 rfl 23 (.tmp 118) (.tmp 116) rfl w2.heap.size 20 (.int .u64 ((at8 (sb T) 64 : Nat) : Int)) rfl rfl RM sizeU64 ?_ (hid (by simp [Ms.cells])) (hid rfl); intro w7 RX hg; have RH := hid (RH.out.grown hg (by intro e; have := Option.some.inj e; have := HG.out; omega)); have RZ := hid (RZ.out.grown hg (by intro e; have := Option.some.inj e; have := HH.out; have := HG.out; omega)); have HB := hid (HB.out.trans (below_grown hg (by have := HH.out; have := HG.out; omega) HB.out.size)); clear hg))
          go_roundw
          case rel => exact ⟨6, by omega, rfl, _, rfl, RH, RX, RZ, HB⟩
          case measure => simp [intOf]
        · go_wp2_with fail
          go_meet
          exact ⟨_, rfl, RH, hid (by rw [if_pos (of_decide_eq_true HCK.out), ← sK_six]; exact RM.out), RZ, HB⟩
  case rest =>
  clear RH RM RZ HB HCK
  obtain ⟨W1, rfl, RH, RM, RZ, HB⟩ := hcut
  go_upto_region 22 with fail
  go_cut [124] from 119 to 124 (fun b wx => ∃ (W1 : World) (ck : Bool), W1 = wx ∧ b = .bool ck ∧ Hid (kEnt h.kind = ck) ∧ Hid (Row W1 w1.heap.size 42 h.cells.toList) ∧ Hid (Row W1 w2.heap.size 32 ((cM h (if kChk h.kind = true then chkP (sb T) else mk0) (if kSz h.kind = true ∧ T.size = 72 then sumsP (sb T) else z6) en0 [] [] ⟨#[]⟩).cells p0M).toList) ∧ Hid (Row W1 w.heap.size 32 z33.toList) ∧ Hid (Below w.heap.size w W1))
  case first =>
    cases h2 : (h.kind == 2)
    case true =>
      go_wp2_with fail
      go_meet
      exact ⟨_, _, rfl, rfl, hid (by simp [kEnt, h2]), RH, RM, RZ, HB⟩
    cases h11 : (h.kind == 11)
    case true =>
      go_wp2_with fail
      go_meet
      exact ⟨_, _, rfl, rfl, hid (by simp [kEnt, h2, h11]), RH, RM, RZ, HB⟩
    go_wp2_with fail
    go_meet
    exact ⟨_, _, rfl, rfl, hid (by simp [kEnt, h2, h11]), RH, RM, RZ, HB⟩
  case rest =>
  clear RH RM RZ HB
  obtain ⟨W1, ck, rfl, rfl, HCK, RH, RM, RZ, HB⟩ := hcut
  go_upto_if 124 with fail
  go_cut [10] from 125 to 137 (fun o wx => ∃ (E : En) (ob : Bool) (W1 : World), W1 = wx ∧ o = .bool ob ∧ Hid E.fits ∧ Hid (kEnt h.kind = false → E = en0 ∧ ob = true) ∧ Hid (kEnt h.kind = true → (entP (sb T) 0).map Prod.fst = if ob = true then some E else none) ∧ Hid (Row W1 w1.heap.size 42 h.cells.toList) ∧ Hid (Row W1 w2.heap.size 32 ((cM h (if kChk h.kind = true then chkP (sb T) else mk0) (if kSz h.kind = true ∧ T.size = 72 then sumsP (sb T) else z6) E [] [] ⟨#[]⟩).cells p0M).toList) ∧ Hid (Row W1 w.heap.size 32 z33.toList) ∧ Hid (Below w.heap.size w W1))
  case first =>
    cases ck
    case false =>
      go_wp2_with fail
      go_meet
      exact ⟨en0, true, _, rfl, rfl, hid en0_fitsM, hid (fun _ => ⟨rfl, rfl⟩), hid (fun e => by rw [HCK.out] at e; cases e), RH, RM, RZ, HB⟩
    case true =>
      have h9 : a9 = 0 := by have := HA9.out; rw [chk_ent HCK.out] at this; simpa using this
      subst h9
      have HE1 : Hid (∀ W, Calls Tryz.prog 15 #[.string T, .int .i64 0, .int .i64 1] W (EN W 1 ((entP (sb T) 0).map fun et => ([et.1], et.2)))) := hid fun W => by
        have h := ents17_any T 0 1 W HT.out (by omega)
        rw [entsF_one] at h
        exact h
      cases he : entP (sb T) 0 with
      | none =>
        rw [he] at HE1
        have HEE := hid he
        clear he
        go_wp2_with (go_at_call 15; refine (HE1.out _).mono ?_; rintro e w4 ⟨rfl, hb⟩; have RH := hid (RH.out.below hb RH.out.lt); have RM := hid (RM.out.below hb RM.out.lt); have RZ := hid (RZ.out.below hb RZ.out.lt); have HB := hid (HB.out.trans (hb.mono HB.out.size)); clear hb)
        go_meet
        exact ⟨en0, false, _, rfl, rfl, hid en0_fitsM, hid (fun e => by rw [HCK.out] at e; cases e), hid (fun _ => by rw [HEE.out]; rfl), RH, RM, RZ, HB⟩
      | some et =>
        obtain ⟨E, q2⟩ := et
        rw [he] at HE1
        have HEE := hid he
        have HZE := hid esize
        clear he
        go_wp2_with (first
          | (go_at_call 15; refine (HE1.out _).mono ?_; rintro e w4 ⟨⟨v1, rfl, -, how1⟩, hb⟩; have RH := hid (RH.out.below hb RH.out.lt); have RM := hid (RM.out.below hb RM.out.lt); have RZ := hid (RZ.out.below hb RZ.out.lt); have HB := hid (HB.out.trans (hb.mono HB.out.size)); clear hb; obtain ⟨g1, c1, rfl, hg1, hg1l, hc1, hrg1⟩ := own_first how1; have HRG := hid hrg1; clear hrg1 how1)
          | ((with_reducible show wpList _ _ _ ({ dst := some 136, op := _, type := _, pos := _, after := _, guard := _ } :: _) _ _); refine wpl_load_midw rfl 28 (.tmp 135) rfl g1 0 rfl (Array.toList E.cells) _ HRG.out Tryz.underlying28 rfl (by exact HZE.out) ?_)
          | ((with_reducible show wpList _ _ _ ({ dst := none, op := .store _ (.tmp 137) _, type := _, pos := _, after := _, guard := _ } :: _) _ _); refine wpl_store_at rfl (.tmp 137) (.tmp 136) rfl HZE.out w2.heap.size 21 _ (Array.toList E.cells) rfl rfl RM ?_ (hid (by simp [Ms.cells, En.cells])) (hid rfl) (hid (by simp [En.cells, Value.oneCell'])); intro w7 RX hg; have RH := hid (RH.out.grown hg (by intro e; have := Option.some.inj e; have := HG.out; omega)); have RZ := hid (RZ.out.grown hg (by intro e; have := Option.some.inj e; have := HH.out; have := HG.out; omega)); have HB := hid (HB.out.trans (below_grown hg (by have := HH.out; have := HG.out; omega) HB.out.size)); clear hg))
        go_meet
        exact ⟨E, true, _, rfl, rfl, hid (entP_fits HEE.out), hid (fun e => by rw [HCK.out] at e; cases e), hid (fun _ => by rw [HEE.out]; rfl), RH, RX, RZ, HB⟩
  case rest =>
  clear RH RM RZ HB HCK
  obtain ⟨E, ob, W1, rfl, rfl, HEF, HE0, HE1, RH, RM, RZ, HB⟩ := hcut
  go_upto_region 27 with fail
  go_cut [139] from 138 to 139 (fun b wx => ∃ (W1 : World) (ck : Bool), W1 = wx ∧ b = .bool ck ∧ Hid (kEs h.kind = ck) ∧ Hid (Row W1 w1.heap.size 42 h.cells.toList) ∧ Hid (Row W1 w2.heap.size 32 ((cM h (if kChk h.kind = true then chkP (sb T) else mk0) (if kSz h.kind = true ∧ T.size = 72 then sumsP (sb T) else z6) E [] [] ⟨#[]⟩).cells p0M).toList) ∧ Hid (Row W1 w.heap.size 32 z33.toList) ∧ Hid (Below w.heap.size w W1))
  case first =>
    go_wp2_with fail
    go_meet
    exact ⟨_, _, rfl, rfl, hid rfl, RH, RM, RZ, HB⟩
  case rest =>
  clear RH RM RZ HB
  obtain ⟨W1, ck, rfl, rfl, HCK, RH, RM, RZ, HB⟩ := hcut
  go_upto_if 139 with fail
  go_cut [10] from 140 to 154 (fun o wx => ∃ (es : List En) (A : Option Addr) (cA : Nat) (ob2 : Bool) (W1 : World), W1 = wx ∧ o = .bool ob2 ∧ Hid (es.length ≤ 255 ∧ ∀ e ∈ es, e.fits) ∧ Hid (es.length ≤ cA) ∧ Hid (kEs h.kind = false → es = [] ∧ ob2 = ob) ∧ Hid (kEs h.kind = true → ∃ c, (sb T)[24]? = some c ∧ (entsF (sb T) 25 c.toNat).map Prod.fst = if ob2 = true then some es else none) ∧ Hid (W1.ownsRow (w2.heap.size + 1) 28 9 (.slice A es.length cA) es.length (rws (fun e : En => e.cells.toList) es)) ∧ Hid (Row W1 w1.heap.size 42 h.cells.toList) ∧ Hid (Row W1 w2.heap.size 32 ((cM h (if kChk h.kind = true then chkP (sb T) else mk0) (if kSz h.kind = true ∧ T.size = 72 then sumsP (sb T) else z6) E es [] ⟨#[]⟩).cells ⟨A, cA, none, 0⟩).toList) ∧ Hid (Row W1 w.heap.size 32 z33.toList) ∧ Hid (Below w.heap.size w W1))
  case first =>
    cases ck
    case false =>
      go_wp2_with fail
      go_meet
      exact ⟨[], none, 0, ob, _, rfl, rfl, hid ⟨by simp, by simp⟩, hid (by simp), hid (fun _ => ⟨rfl, rfl⟩), hid (fun e => by rw [HCK.out] at e; cases e), hid (own_nilM _ _ _ _), RH, RM, RZ, HB⟩
    case true =>
      by_cases hl : T.size < 25
      · have hli : (T.size : Int) < 25 := by omega
        have hz := zero33
        have hzs := z33_size
        have hzn := z33_ne
        have HD := hid (dc_short25 (s := sb s) HCK.out (by rw [sb_len]; exact hl))
        clear hl
        go_wp2_with ((with_reducible show wpList _ _ _ ({ dst := none, op := .store _ (.tmp 2) _, type := _, pos := _, after := _, guard := _ } :: _) _ _); refine wpl_store_st rfl (.tmp 2) (.tmp 143) rfl HZS.out w.heap.size z33 z33 rfl rfl RZ.out ?_ (hid (by simp [z33])) (hid rfl) (hid (by rw [ms0_cells]; simp [Ms.cells, ms0, Value.oneCell', en0, mk0])); intro wz hrz hgz; have HBZ := hid (HB.out.trans (below_grown hgz (Nat.le_refl _) HB.out.size)))
        refine bodyPost_ret (v := .tuple #[.agg (ms0.cells p0M), .int .i64 4]) (results_cell1 rfl _ _ w.heap.size 32 z33 (0, 0) _ (.int .i64 4) rfl rfl (Row.arr hrz) Tryz.underlying32 rfl HZS.out) rfl ⟨p0M, by rw [HD.out], by rw [HD.out]; exact pl0 _ _, HBZ.out⟩
      · have hli : (25 : Int) ≤ (T.size : Int) := by omega
        have hl24 : 24 < T.size := by omega
        have hli2 : (24 : Int) < (T.size : Int) := by omega
        have HC : Hid ((sb T)[24]? = some (T[24]'hl24)) := hid (by
          unfold sb
          rw [Array.getElem?_toList]
          exact Array.getElem?_eq_getElem _)
        obtain ⟨cn, hcn⟩ : ∃ cn, (T[24]'hl24).toNat = cn := ⟨_, rfl⟩
        have h256 := UInt8.toNat_lt (T[24]'hl24)
        rw [hcn] at h256
        have HCN := hid hcn
        have HEN2 := hid (fun W => ents17_any T 25 cn W HT.out (by omega))
        cases he : entsF (sb T) 25 cn with
        | none =>
          rw [he] at HEN2
          have HEE := hid he
          clear he hl
          go_wp2_with (first
            | (go_at_call 15; refine (HEN2.out _).mono ?_; rintro e w4 ⟨rfl, hb⟩; have RH := hid (RH.out.below hb RH.out.lt); have RM := hid (RM.out.below hb RM.out.lt); have RZ := hid (RZ.out.below hb RZ.out.lt); have HB := hid (HB.out.trans (hb.mono HB.out.size)); clear hb)
            | ((with_reducible show wpList _ _ _ ({ dst := none, op := .store _ (.tmp 154) _, type := _, pos := _, after := _, guard := _ } :: _) _ _); refine wpl_st1 rfl 29 (.tmp 154) (.tmp 153) rfl w2.heap.size 30 (.slice none 0 0) rfl rfl RM sizeSlE ?_ (hid (by simp [Ms.cells])) (hid rfl); intro w7 RX hg; have RH := hid (RH.out.grown hg (by intro e; have := Option.some.inj e; have := HG.out; omega)); have RZ := hid (RZ.out.grown hg (by intro e; have := Option.some.inj e; have := HH.out; have := HG.out; omega)); have HB := hid (HB.out.trans (below_grown hg (by have := HH.out; have := HG.out; omega) HB.out.size)); clear hg))
          go_meet
          exact ⟨[], none, 0, false, _, rfl, rfl, hid ⟨by simp, by simp⟩, hid (by simp), hid (fun e => by rw [HCK.out] at e; cases e), hid (fun _ => ⟨_, HC.out, by rw [HCN.out, HEE.out]; rfl⟩), hid (own_nilM _ _ _ _), RH, RX, RZ, HB⟩
        | some lq =>
          obtain ⟨l, q2⟩ := lq
          rw [he] at HEN2
          have HEE := hid he
          have HGF := hid (entsF_fits he)
          clear he hl
          go_wp2_with (first
            | (go_at_call 15; refine (HEN2.out _).mono ?_; rintro e w4 ⟨⟨v1, rfl, hlen, how1⟩, hb⟩; have HLEN := hid hlen; obtain ⟨A, c, rfl, hnc, -⟩ := own_rdM how1; have HNC := hid hnc; have HOW := hid (own_weakM how1 RM.out.lt); clear how1 hlen hnc; have RH := hid (RH.out.below hb RH.out.lt); have RM := hid (RM.out.below hb RM.out.lt); have RZ := hid (RZ.out.below hb RZ.out.lt); have HB := hid (HB.out.trans (hb.mono HB.out.size)); clear hb)
            | ((with_reducible show wpList _ _ _ ({ dst := none, op := .store _ (.tmp 154) _, type := _, pos := _, after := _, guard := _ } :: _) _ _); refine wpl_st1 rfl 29 (.tmp 154) (.tmp 153) rfl w2.heap.size 30 (.slice A cn c) rfl rfl RM sizeSlE ?_ (hid (by simp [Ms.cells])) (hid rfl); intro w7 RX hg; have RH := hid (RH.out.grown hg (by intro e; have := Option.some.inj e; have := HG.out; omega)); have RZ := hid (RZ.out.grown hg (by intro e; have := Option.some.inj e; have := HH.out; have := HG.out; omega)); have HB := hid (HB.out.trans (below_grown hg (by have := HH.out; have := HG.out; omega) HB.out.size)); have HOW := hid (own_grownM HOW.out hg (by omega)); clear hg))
          go_meet
          have hlen := HLEN.out
          exact ⟨l, A, c, true, _, rfl, rfl, hid ⟨by omega, HGF.out.2⟩, hid (by have := HNC.out; omega), hid (fun e => by rw [HCK.out] at e; cases e), hid (fun _ => ⟨_, HC.out, by rw [HCN.out, HEE.out]; rfl⟩), hid (by rw [hlen]; exact HOW.out), RH, hid (by have := RX.out; rw [← hlen] at this; exact this), RZ, HB⟩
  case rest =>
  clear RH RM RZ HB HCK
  obtain ⟨es, A, cA, ob2, W1, rfl, rfl, HSF, HSC, HS0, HS1, HOE, RH, RM, RZ, HB⟩ := hcut
  go_upto_region 33 with fail
  go_cut [157] from 156 to 157 (fun b wx => ∃ (W1 : World) (ck : Bool), W1 = wx ∧ b = .bool ck ∧ Hid (kLog h.kind = ck) ∧ Hid (Row W1 w1.heap.size 42 h.cells.toList) ∧ Hid (Row W1 w2.heap.size 32 ((cM h (if kChk h.kind = true then chkP (sb T) else mk0) (if kSz h.kind = true ∧ T.size = 72 then sumsP (sb T) else z6) E es [] ⟨#[]⟩).cells ⟨A, cA, none, 0⟩).toList) ∧ Hid (Row W1 w.heap.size 32 z33.toList) ∧ Hid (Below w.heap.size w W1) ∧ Hid (W1.ownsRow (w2.heap.size + 1) 28 9 (.slice A es.length cA) es.length (rws (fun e : En => e.cells.toList) es)))
  case first =>
    go_wp2_with fail
    go_meet
    exact ⟨_, _, rfl, rfl, hid rfl, RH, RM, RZ, HB, HOE⟩
  case rest =>
  clear RH RM RZ HB HOE
  obtain ⟨W1, ck, rfl, rfl, HCK, RH, RM, RZ, HB, HOE⟩ := hcut
  go_upto_if 157 with fail
  go_cut [10] from 158 to 165 (fun o wx => ∃ (xs : List It) (B : Option Addr) (cB : Nat) (ob3 : Bool) (W1 : World), W1 = wx ∧ o = .bool ob3 ∧ Hid (xs.length ≤ 255 ∧ ∀ e ∈ xs, e.fits) ∧ Hid (xs.length ≤ cB) ∧ Hid (kLog h.kind = false → xs = [] ∧ ob3 = ob2) ∧ Hid (kLog h.kind = true → (itemsF (sb T) 24 8).map Prod.fst = if ob3 = true then some xs else none) ∧ Hid (Row W1 w1.heap.size 42 h.cells.toList) ∧ Hid (Row W1 w2.heap.size 32 ((cM h (if kChk h.kind = true then chkP (sb T) else mk0) (if kSz h.kind = true ∧ T.size = 72 then sumsP (sb T) else z6) E es xs ⟨#[]⟩).cells ⟨A, cA, B, cB⟩).toList) ∧ Hid (Row W1 w.heap.size 32 z33.toList) ∧ Hid (Below w.heap.size w W1) ∧ Hid (W1.ownsRow (w2.heap.size + 1) 28 9 (.slice A es.length cA) es.length (rws (fun e : En => e.cells.toList) es)) ∧ Hid (W1.ownsRow (w2.heap.size + 1) 62 15 (.slice B xs.length cB) xs.length (rws (fun x : It => x.cells.toList) xs)))
  case first =>
    cases ck
    case false =>
      go_wp2_with fail
      go_meet
      exact ⟨[], none, 0, ob2, _, rfl, rfl, hid ⟨by simp, by simp⟩, hid (by simp), hid (fun _ => ⟨rfl, rfl⟩), hid (fun e => by rw [HCK.out] at e; cases e), RH, RM, RZ, HB, HOE, hid (own_nilM _ _ _ _)⟩
    case true =>
      have h9 : a9 = 24 := by have := HA9.out; rw [chk_log HCK.out] at this; simpa using this
      subst h9
      have HIT := hid (fun W => items17_any T 24 W HT.out (by omega))
      cases he : itemsF (sb T) 24 8 with
      | none =>
        rw [he] at HIT
        have HEE := hid he
        clear he
        go_wp2_with (first
          | (go_at_call 16; refine (HIT.out _).mono ?_; rintro e w4 ⟨rfl, hb⟩; have RH := hid (RH.out.below hb RH.out.lt); have RM := hid (RM.out.below hb RM.out.lt); have RZ := hid (RZ.out.below hb RZ.out.lt); have HB := hid (HB.out.trans (hb.mono HB.out.size)); have HOE := hid (own_belowM HOE.out hb); clear hb)
          | ((with_reducible show wpList _ _ _ ({ dst := none, op := .store _ (.tmp 165) _, type := _, pos := _, after := _, guard := _ } :: _) _ _); refine wpl_st1 rfl 30 (.tmp 165) (.tmp 164) rfl w2.heap.size 31 (.slice none 0 0) rfl rfl RM sizeSlI ?_ (hid (by simp [Ms.cells])) (hid rfl); intro w7 RX hg; have RH := hid (RH.out.grown hg (by intro e; have := Option.some.inj e; have := HG.out; omega)); have RZ := hid (RZ.out.grown hg (by intro e; have := Option.some.inj e; have := HH.out; have := HG.out; omega)); have HB := hid (HB.out.trans (below_grown hg (by have := HH.out; have := HG.out; omega) HB.out.size)); have HOE := hid (own_grownM HOE.out hg (by omega)); clear hg))
        go_meet
        exact ⟨[], none, 0, false, _, rfl, rfl, hid ⟨by simp, by simp⟩, hid (by simp), hid (fun e => by rw [HCK.out] at e; cases e), hid (fun _ => by rw [HEE.out]; rfl), RH, RX, RZ, HB, HOE, hid (own_nilM _ _ _ _)⟩
      | some lq =>
        obtain ⟨l, q2⟩ := lq
        rw [he] at HIT
        have HEE := hid he
        have HGF := hid (itemsF_fits he)
        clear he
        go_wp2_with (first
          | (go_at_call 16; refine (HIT.out _).mono ?_; rintro e w4 ⟨⟨v1, rfl, hlen, how1⟩, hb⟩; have HLEN := hid hlen; obtain ⟨B, c, rfl, hnc, -⟩ := own_rdM how1; have HNC := hid hnc; have HOW := hid (own_weakM how1 RM.out.lt); clear how1 hlen hnc; have RH := hid (RH.out.below hb RH.out.lt); have RM := hid (RM.out.below hb RM.out.lt); have RZ := hid (RZ.out.below hb RZ.out.lt); have HB := hid (HB.out.trans (hb.mono HB.out.size)); have HOE := hid (own_belowM HOE.out hb); clear hb)
          | ((with_reducible show wpList _ _ _ ({ dst := none, op := .store _ (.tmp 165) _, type := _, pos := _, after := _, guard := _ } :: _) _ _); refine wpl_st1 rfl 30 (.tmp 165) (.tmp 164) rfl w2.heap.size 31 (.slice B 8 c) rfl rfl RM sizeSlI ?_ (hid (by simp [Ms.cells])) (hid rfl); intro w7 RX hg; have RH := hid (RH.out.grown hg (by intro e; have := Option.some.inj e; have := HG.out; omega)); have RZ := hid (RZ.out.grown hg (by intro e; have := Option.some.inj e; have := HH.out; have := HG.out; omega)); have HB := hid (HB.out.trans (below_grown hg (by have := HH.out; have := HG.out; omega) HB.out.size)); have HOE := hid (own_grownM HOE.out hg (by omega)); have HOW := hid (own_grownM HOW.out hg (by omega)); clear hg))
        go_meet
        have hlen := HLEN.out
        exact ⟨l, B, c, true, _, rfl, rfl, hid ⟨by omega, HGF.out.2⟩, hid (by have := HNC.out; omega), hid (fun e => by rw [HCK.out] at e; cases e), hid (fun _ => by rw [HEE.out]; rfl), RH, hid (by have := RX.out; rw [← hlen] at this; exact this), RZ, HB, HOE, hid (by rw [hlen]; exact HOW.out)⟩
  case rest =>
  clear RH RM RZ HB HCK HOE
  obtain ⟨xs, B, cB, ob3, W1, rfl, rfl, HXF, HXC, HX0, HX1, RH, RM, RZ, HB, HOE, HOI⟩ := hcut
  go_upto_region 37 with fail
  go_cut [176] from 167 to 176 (fun b wx => ∃ (W1 : World) (ck : Bool), W1 = wx ∧ b = .bool ck ∧ Hid (kBod h.kind = ck) ∧ Hid (Row W1 w1.heap.size 42 h.cells.toList) ∧ Hid (Row W1 w2.heap.size 32 ((cM h (if kChk h.kind = true then chkP (sb T) else mk0) (if kSz h.kind = true ∧ T.size = 72 then sumsP (sb T) else z6) E es xs ⟨#[]⟩).cells ⟨A, cA, B, cB⟩).toList) ∧ Hid (Row W1 w.heap.size 32 z33.toList) ∧ Hid (Below w.heap.size w W1) ∧ Hid (W1.ownsRow (w2.heap.size + 1) 28 9 (.slice A es.length cA) es.length (rws (fun e : En => e.cells.toList) es)) ∧ Hid (W1.ownsRow (w2.heap.size + 1) 62 15 (.slice B xs.length cB) xs.length (rws (fun x : It => x.cells.toList) xs)))
  case first =>
    cases h1 : (h.kind == 1)
    case true =>
      go_wp2_with fail
      go_meet
      exact ⟨_, _, rfl, rfl, hid (by simp [kBod, h1]), RH, RM, RZ, HB, HOE, HOI⟩
    cases h4 : (h.kind == 4)
    case true =>
      go_wp2_with fail
      go_meet
      exact ⟨_, _, rfl, rfl, hid (by simp [kBod, h1, h4]), RH, RM, RZ, HB, HOE, HOI⟩
    cases h15 : (h.kind == 15)
    case true =>
      go_wp2_with fail
      go_meet
      exact ⟨_, _, rfl, rfl, hid (by simp [kBod, h1, h4, h15]), RH, RM, RZ, HB, HOE, HOI⟩
    go_wp2_with fail
    go_meet
    exact ⟨_, _, rfl, rfl, hid (by simp [kBod, h1, h4, h15]), RH, RM, RZ, HB, HOE, HOI⟩
  case rest =>
  clear RH RM RZ HB HOE HOI
  obtain ⟨W1, ck, rfl, rfl, HCK, RH, RM, RZ, HB, HOE, HOI⟩ := hcut
  go_upto_if 176 with fail
  go_cut [] from 177 to 180 (fun wx => ∃ W1 : World, W1 = wx ∧ Hid (Row W1 w1.heap.size 42 h.cells.toList) ∧ Hid (Row W1 w2.heap.size 32 ((cM h (if kChk h.kind = true then chkP (sb T) else mk0) (if kSz h.kind = true ∧ T.size = 72 then sumsP (sb T) else z6) E es xs (if kBod h.kind = true then ⟨((sb T).drop a9.toNat).toArray⟩ else ⟨#[]⟩)).cells ⟨A, cA, B, cB⟩).toList) ∧ Hid (Row W1 w.heap.size 32 z33.toList) ∧ Hid (Below w.heap.size w W1) ∧ Hid (W1.ownsRow (w2.heap.size + 1) 28 9 (.slice A es.length cA) es.length (rws (fun e : En => e.cells.toList) es)) ∧ Hid (W1.ownsRow (w2.heap.size + 1) 62 15 (.slice B xs.length cB) xs.length (rws (fun x : It => x.cells.toList) xs)))
  case first =>
    cases ck
    case false =>
      go_wp2_with fail
      go_meet
      exact ⟨_, rfl, RH, hid (by rw [HCK.out]; exact RM.out), RZ, HB, HOE, HOI⟩
    case true =>
      obtain ⟨n9, hn9⟩ : ∃ n : Nat, a9 = (n : Int) := ⟨a9.toNat, by have := HA9.out; split at this <;> omega⟩
      subst hn9
      have hn : n9 ≤ T.size := by
        have h1 := HA9.out
        have h2 := HL24.out
        split at h1
        · rename_i hc; have := h2 hc; omega
        · omega
      have hni : (n9 : Int) ≤ (T.size : Int) := by omega
      have hTi : (T.size : Int) ≤ 100000 := by have := HT.out; omega
      have HED := hid (ext_drop T n9)
      clear hn
      go_wp2_with ((with_reducible show wpList _ _ _ ({ dst := none, op := .store _ (.tmp 180) _, type := _, pos := _, after := _, guard := _ } :: _) _ _); refine wpl_st1 rfl 9 (.tmp 180) (.tmp 179) rfl w2.heap.size 32 (.string (T.extract n9 T.size)) rfl rfl RM sizeStr ?_ (hid (by simp [Ms.cells])) (hid rfl); intro w7 RX hg; have RH := hid (RH.out.grown hg (by intro e; have := Option.some.inj e; have := HG.out; omega)); have RZ := hid (RZ.out.grown hg (by intro e; have := Option.some.inj e; have := HH.out; have := HG.out; omega)); have HB := hid (HB.out.trans (below_grown hg (by have := HH.out; have := HG.out; omega) HB.out.size)); have HOE := hid (own_grownM HOE.out hg (by omega)); have HOI := hid (own_grownM HOI.out hg (by omega)); clear hg)
      go_meet
      exact ⟨_, rfl, RH, hid (by rw [HCK.out, if_pos rfl]; have h := RX.out; rw [HED.out] at h; exact h), RZ, HB, HOE, HOI⟩
  case rest =>
  clear RH RM RZ HB HCK HOE HOI
  obtain ⟨W1, rfl, RH, RM, RZ, HB, HOE, HOI⟩ := hcut
  have HP := hid (parse_of h T a9.toNat E es xs ob ob2 ob3 (by rw [HA9.out]; split <;> rfl) HL24.out HE0.out HE1.out HS0.out HS1.out HX0.out HX1.out)
  have HF := hid (cT_fits hh.out T a9.toNat HEF.out HSF.out.2 HXF.out.2 (by rw [HA9.out]; split <;> rfl))
  have HPL : Hid (∀ W, W.ownsRow (w2.heap.size + 1) 28 9 (.slice A es.length cA) es.length (rws (fun e : En => e.cells.toList) es) → W.ownsRow (w2.heap.size + 1) 62 15 (.slice B xs.length cB) xs.length (rws (fun x : It => x.cells.toList) xs) → PlOk W W.heap.size (cT h T a9.toNat E es xs) ⟨A, cA, B, cB⟩) := hid fun W o1 o2 => by
    obtain ⟨A1, c1, h1, -, r1⟩ := own_rdM o1
    obtain ⟨A2, c2, h2, -, r2⟩ := own_rdM o2
    injection h1 with q1 q2 q3
    injection h2 with q4 q5 q6
    subst q1 q3 q4 q6
    exact ⟨r1, r2, by have := HSF.out.1; show es.length ≤ _; omega, by have := HXF.out.1; show xs.length ≤ _; omega, HSC.out, HXC.out⟩
  have RM2 : Hid (Row W1 w2.heap.size 32 ((cT h T a9.toNat E es xs).cells ⟨A, cA, B, cB⟩).toList) := RM
  clear RM HE0 HE1 HS0 HS1 HX0 HX1 HSF HXF HSC HXC HEF HA9 HL24
  have RM := RM2
  clear RM2
  obtain ⟨m, hm⟩ : ∃ m, cT h T a9.toNat E es xs = m := ⟨_, rfl⟩
  rw [hm] at HP HF HPL RM
  clear hm
  have HEN := hid (enc17_any m ⟨A, cA, B, cB⟩ W1.heap.size W1 (HPL.out W1 HOE.out HOI.out) (Nat.le_refl _) HF.out)
  obtain ⟨⟨X, f⟩, hX⟩ : ∃ r, encM m = r := ⟨_, rfl⟩
  rw [hX] at HEN
  have HX := hid hX
  clear hX
  have HST : Hid ((Array.toList (m.cells ⟨A, cA, B, cB⟩)).length = 33) := hid rfl
  have hz := zero33
  have hzs := z33_size
  have hzn := z33_ne
  go_upto_region 40 with (first
    | ((with_reducible show wpList _ _ _ ({ dst := some 182, op := _, type := _, pos := _, after := _, guard := _ } :: _) _ _); refine wpList_load_row rfl 32 (.tmp 7) rfl w2.heap.size rfl 32 (m.cells ⟨A, cA, B, cB⟩) (0, 0) _ (Row.arr RM.out) Tryz.underlying32 rfl HZS.out ?_)
    | (go_at_call 17; refine (HEN.out).mono ?_; rintro e w4 ⟨rfl, hb⟩; have HOE := hid (own_belowM HOE.out hb); have HOI := hid (own_belowM HOI.out hb); have RH := hid (RH.out.below hb RH.out.lt); have RM := hid (RM.out.below hb RM.out.lt); have RZ := hid (RZ.out.below hb RZ.out.lt); have HB := hid (HB.out.trans (hb.mono HB.out.size)); clear hb))
  obtain ⟨PT, hPT⟩ : ∃ PT : ByteArray, (⟨X.toArray⟩ : ByteArray) = PT := ⟨_, rfl⟩
  rw [hPT]
  have HPT := hid hPT
  clear hPT HEN HF
  cases ob3
  case false =>
    have HD : Hid (dcM (sb s) h (sb T) = (ms0, 4)) := hid (by unfold dcM; rw [HP.out]; rfl)
    go_wp2_with ((with_reducible show wpList _ _ _ ({ dst := none, op := .store _ (.tmp 2) _, type := _, pos := _, after := _, guard := _ } :: _) _ _); refine wpl_store_st rfl (.tmp 2) (.tmp 197) rfl HZS.out w.heap.size z33 z33 rfl rfl RZ.out ?_ (hid (by simp [z33])) (hid rfl) (hid (by rw [ms0_cells]; simp [Ms.cells, ms0, Value.oneCell', en0, mk0])); intro wz hrz hgz; have HBZ := hid (HB.out.trans (below_grown hgz (Nat.le_refl _) HB.out.size)))
    refine bodyPost_ret (v := .tuple #[.agg (ms0.cells p0M), .int .i64 4]) (results_cell1 rfl _ _ w.heap.size 32 z33 (0, 0) _ (.int .i64 4) rfl rfl (Row.arr hrz) Tryz.underlying32 rfl HZS.out) rfl ⟨p0M, by rw [HD.out], by rw [HD.out]; exact pl0 _ _, HBZ.out⟩
  case true =>
  by_cases h1 : f = 0
  · subst h1
    by_cases h2 : X = sb s
    · have hs : (PT.toList == s.toList) = true := by rw [← HPT.out, h2, mk_sb]; simp
      have HD : Hid (dcM (sb s) h (sb T) = (m, 0)) := hid (by unfold dcM; rw [HP.out, if_pos rfl]; show (if encM m = (sb s, 0) then _ else _) = _; rw [HX.out, h2, if_pos rfl])
      clear h2
      go_wp2_with (first
        | ((with_reducible show wpList _ _ _ ({ dst := some 198, op := _, type := _, pos := _, after := _, guard := _ } :: _) _ _); refine wpList_load_row rfl 32 (.tmp 7) rfl w2.heap.size rfl 32 (m.cells ⟨A, cA, B, cB⟩) (0, 0) _ (Row.arr RM.out) Tryz.underlying32 rfl HZS.out ?_)
        | ((with_reducible show wpList _ _ _ ({ dst := none, op := .store _ (.tmp 2) _, type := _, pos := _, after := _, guard := _ } :: _) _ _); refine wpl_store_st rfl (.tmp 2) (.tmp 198) rfl HZS.out w.heap.size z33 (m.cells ⟨A, cA, B, cB⟩) rfl rfl RZ.out ?_ (hid rfl) (hid rfl) (hid (by simp [Ms.cells, Value.oneCell'])); intro wz hrz hgz; have HBZ := hid (HB.out.trans (below_grown hgz (Nat.le_refl _) HB.out.size)); have HOE := hid (own_grownM HOE.out hgz (by have := HH.out; have := HG.out; omega)); have HOI := hid (own_grownM HOI.out hgz (by have := HH.out; have := HG.out; omega))))
      refine bodyPost_ret (v := .tuple #[.agg (m.cells ⟨A, cA, B, cB⟩), .int .i64 0]) (results_cell1 rfl _ _ w.heap.size 32 (m.cells ⟨A, cA, B, cB⟩) (0, 0) _ (.int .i64 0) rfl rfl (Row.arr hrz) Tryz.underlying32 rfl HZS.out) rfl ⟨⟨A, cA, B, cB⟩, by rw [HD.out], by rw [HD.out]; exact HPL.out wz HOE.out HOI.out, HBZ.out⟩
    · have hs : (PT.toList == s.toList) = false := by rw [← HPT.out]; exact str_ne (fun c => h2 (by rw [← c, sb_mk]))
      have HD : Hid (dcM (sb s) h (sb T) = (ms0, 4)) := hid (by unfold dcM; rw [HP.out, if_pos rfl]; show (if encM m = (sb s, 0) then _ else _) = _; rw [HX.out, if_neg (fun e => h2 (Prod.mk.inj e).1)])
      clear h2
      go_wp2_with ((with_reducible show wpList _ _ _ ({ dst := none, op := .store _ (.tmp 2) _, type := _, pos := _, after := _, guard := _ } :: _) _ _); refine wpl_store_st rfl (.tmp 2) (.tmp 197) rfl HZS.out w.heap.size z33 z33 rfl rfl RZ.out ?_ (hid (by simp [z33])) (hid rfl) (hid (by rw [ms0_cells]; simp [Ms.cells, ms0, Value.oneCell', en0, mk0])); intro wz hrz hgz; have HBZ := hid (HB.out.trans (below_grown hgz (Nat.le_refl _) HB.out.size)))
      refine bodyPost_ret (v := .tuple #[.agg (ms0.cells p0M), .int .i64 4]) (results_cell1 rfl _ _ w.heap.size 32 z33 (0, 0) _ (.int .i64 4) rfl rfl (Row.arr hrz) Tryz.underlying32 rfl HZS.out) rfl ⟨p0M, by rw [HD.out], by rw [HD.out]; exact pl0 _ _, HBZ.out⟩
  · have he : (f != 0) = true := by simpa using h1
    have HD : Hid (dcM (sb s) h (sb T) = (ms0, 4)) := hid (by unfold dcM; rw [HP.out, if_pos rfl]; show (if encM m = (sb s, 0) then _ else _) = _; rw [HX.out, if_neg (fun e => h1 (Prod.mk.inj e).2)])
    clear h1
    go_wp2_with ((with_reducible show wpList _ _ _ ({ dst := none, op := .store _ (.tmp 2) _, type := _, pos := _, after := _, guard := _ } :: _) _ _); refine wpl_store_st rfl (.tmp 2) (.tmp 197) rfl HZS.out w.heap.size z33 z33 rfl rfl RZ.out ?_ (hid (by simp [z33])) (hid rfl) (hid (by rw [ms0_cells]; simp [Ms.cells, ms0, Value.oneCell', en0, mk0])); intro wz hrz hgz; have HBZ := hid (HB.out.trans (below_grown hgz (Nat.le_refl _) HB.out.size)))
    refine bodyPost_ret (v := .tuple #[.agg (ms0.cells p0M), .int .i64 4]) (results_cell1 rfl _ _ w.heap.size 32 z33 (0, 0) _ (.int .i64 4) rfl rfl (Row.arr hrz) Tryz.underlying32 rfl HZS.out) rfl ⟨p0M, by rw [HD.out], by rw [HD.out]; exact pl0 _ _, HBZ.out⟩
set_option maxHeartbeats 1000000 in
theorem dec17_err (s : ByteArray) (h : Hd) (T : ByteArray) (f : Int) (w : World) (hne : (f != 0) = true)
    (HU : Hid (∀ W : World, Calls Tryz.prog 13 #[.string s] W fun x W' => x = .returned (.tuple #[h.val, .string T, .int .i64 f]) ∧ Below W.heap.size W W')) :
    Calls Tryz.prog 6 #[.string s] w (DM w (ms0, 4)) := by
  have HZS := hid mssize
  have hz := zero33
  have hzs := z33_size
  have hzn := z33_ne
  have HB0 : Hid (Below w.heap.size w (w.alloc (.cells z33 32))) := hid ((Below.refl _ _).alloc (Nat.le_refl _) _)
  have R0 : Hid (Row (w.alloc (.cells z33 32)) w.heap.size 32 z33.toList) := hid (Row.new _ _ _)
  go_enter Tryz.func6, Tryz.ntmps6
  go_wp2_with (first
    | (go_at_call 13; refine (HU.out _).mono ?_; rintro e w1 ⟨rfl, hb1⟩; have R1 := hid (R0.out.below hb1 R0.out.lt); have HB1 := hid (HB0.out.trans (hb1.mono HB0.out.size)); clear hb1)
    | (refine wpl_store_head rfl (.tmp 4) (.tmp 25) rfl w1.heap.size h rfl rfl (Row.new _ _ _) ?_; intro w2 hr2 hg2; have hl1 := R1.out.lt; have RZ := hid ((R1.out.alloc (.cells #[.int .i64 0, .int .i64 0, .int .i64 0, .int .i64 0, .int .i64 0, .int .i64 0, .int .i64 0, .int .i64 0, .int .i64 0, .int .i64 0, .int .i64 0, .int .u64 0] 42)).grown hg2 (by intro e; have := Option.some.inj e; omega)); have HB := hid ((HB1.out.alloc HB1.out.size _).trans (below_grown hg2 HB1.out.size (by have := HB1.out.size; simp; omega))); clear hr2 hg2)
    | ((with_reducible show wpList _ _ _ ({ dst := none, op := .store _ (.tmp 2) _, type := _, pos := _, after := _, guard := _ } :: _) _ _); refine wpl_store_st rfl (.tmp 2) (.tmp 30) rfl HZS.out w.heap.size z33 z33 rfl rfl RZ.out ?_ (hid (by simp [z33])) (hid rfl) (hid (by rw [ms0_cells]; simp [Ms.cells, ms0, Value.oneCell', en0, mk0])); intro wz hrz hgz; have HBZ := hid (HB.out.trans (below_grown hgz (Nat.le_refl _) HB.out.size))))
  refine bodyPost_ret (v := .tuple #[.agg (ms0.cells p0M), .int .i64 4]) (results_cell1 rfl _ _ w.heap.size 32 z33 (0, 0) _ (.int .i64 4) rfl rfl (Row.arr hrz) Tryz.underlying32 rfl HZS.out) rfl ⟨p0M, rfl, pl0 _ _, HBZ.out⟩
theorem dec17_any (s : ByteArray) (w : World) (hs : s.size ≤ 100000) : Calls Tryz.prog 6 #[.string s] w (DM w (decM (sb s))) := by
  have HU := hid (fun W => rup_any s W (by omega))
  obtain ⟨⟨h, b, f⟩, hr⟩ : ∃ r, unpackS (sb s) = r := ⟨_, rfl⟩
  rw [hr] at HU
  by_cases h0 : f = 0
  · subst h0
    obtain ⟨h1, h2⟩ := unpM_ok hr
    obtain ⟨-, -, h3⟩ := packS_ok h1
    have hl := congrArg List.length h3
    rw [List.length_append, headB_len, sb_len] at hl
    have := dec17_ok s h ⟨b.toArray⟩ w (by rw [← sb_len, sb_mk]; omega) (hid h2) HU
    rw [sb_mk] at this
    rw [dcM_eq _ _ _ hr]
    exact this
  · have hd : decM (sb s) = (ms0, 4) := by
      unfold decM
      rw [hr, if_neg h0]
    rw [hd]
    exact dec17_err s h ⟨b.toArray⟩ f w (by simpa using h0) HU
end Go.Proofs.YtcildaeiogdfdaaGreatDoor
