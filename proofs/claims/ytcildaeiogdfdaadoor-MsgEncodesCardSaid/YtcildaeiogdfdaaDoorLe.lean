/-
  The walk of MsgEncodes.
-/
import Derived.Test.YtcildaeiogdfdaaDoorM33
import Derived.Test.YtcildaeiogdfdaaDoorLt
import Derived.Test.YtcildaeiogdfdaaDoorM20
import Derived.Test.YtcildaeiogdfdaaDoorM19
import Derived.Test.YtcildaeiogdfdaaDoorM32
namespace Go.Proofs.YtcildaeiogdfdaaDoor
open Go.RowKit
set_option maxRecDepth 10000

theorem rd_up {w : World} {B B' : Nat} {A : Option Addr} {xs : List Value} (h : Rd w B A xs) (hB : B ≤ B') : Rd w B' A xs := fun hne => by
  obtain ⟨g, o, e, hg, hx⟩ := h hne
  exact ⟨g, o, e, Nat.lt_of_lt_of_le hg hB, hx⟩
set_option maxHeartbeats 8000000 in
theorem mencodes_law (m : Ms) (p : Pl) (w : World) (hm : PlOk w w.heap.size m p) (hf : m.fits) (hfd : Fd w) (hmd : Md w) :
    Calls Tryd.prog 3 #[.agg (m.cells p)] w (Yes w) := by
  have HZS := hid mssize
  have HA : Hid (∀ W, Below w.heap.size w W → Calls Tryd.prog 6 #[] W (Yes W)) := hid fun W hW => awake17_any W (hfd.below hW hfd.1) (hmd.below hW hmd.1)
  have HLGm : Hid (∀ W, Below w.heap.size w W → Calls Tryd.prog 7 #[.agg (m.cells p)] W (VE W (.bool (longB m)))) := hid fun W hW => long_any m p w.heap.size W ⟨hm.a.below hW (Nat.le_refl _), hm.b.below hW (Nat.le_refl _), hm.la, hm.lb, hm.ca, hm.cb⟩ hW.size
  obtain ⟨X, f, hXm⟩ : ∃ (X : ByteArray) (f : Int), encM m = (sb X, f) := ⟨⟨(encM m).1.toArray⟩, (encM m).2, by rw [sb_mk]⟩
  have HEm : Hid (∀ W, Below w.heap.size w W → Calls Tryd.prog 8 #[.agg (m.cells p)] W fun x W' => x = .returned (.tuple #[.string X, .int .i64 f]) ∧ Below W.heap.size W W') := hid fun W hW => by
    have h := menc_any m p w.heap.size W ⟨hm.a.below hW (Nat.le_refl _), hm.b.below hW (Nat.le_refl _), hm.la, hm.lb, hm.ca, hm.cb⟩ hW.size hf (hfd.below hW hfd.1) (hmd.below hW hmd.1)
    rw [hXm] at h
    unfold SN at h
    rw [mk_sb] at h
    exact h
  have HRE : Hid (∀ W, Below w.heap.size w W → Calls Tryd.prog 9 #[.agg (m.cells p)] W fun x W' => x = .returned (.tuple #[.string X, .int .i64 f]) ∧ Below W.heap.size W W') := hid fun W hW => by
    have h := enc17_any m p w.heap.size W ⟨hm.a.below hW (Nat.le_refl _), hm.b.below hW (Nat.le_refl _), hm.la, hm.lb, hm.ca, hm.cb⟩ hW.size hf
    rw [hXm] at h
    unfold SN at h
    rw [mk_sb] at h
    exact h
  have HPR : Hid (∀ W, Below w.heap.size w W → Calls Tryd.prog 10 #[.agg (m.cells p)] W (VE W (.bool (decide (rightM m))))) := hid fun W hW => mright_any m p w.heap.size W ⟨hm.a.below hW (Nat.le_refl _), hm.b.below hW (Nat.le_refl _), hm.la, hm.lb, hm.ca, hm.cb⟩ hW.size hf (hfd.below hW hfd.1) (hmd.below hW hmd.1)
  have HRR : Hid (∀ W, Below w.heap.size w W → Calls Tryd.prog 11 #[.agg (m.cells p)] W (VE W (.bool (decide (rightM m))))) := hid fun W hW => rightm_any m p w.heap.size W ⟨hm.a.below hW (Nat.le_refl _), hm.b.below hW (Nat.le_refl _), hm.la, hm.lb, hm.ca, hm.cb⟩ hW.size hf
  have HB0 : Hid (Below w.heap.size w (w.alloc (.cells (m.cells p) 31))) := hid ((Below.refl _ _).alloc (Nat.le_refl _) _)
  have R0 : Hid (Row (w.alloc (.cells (m.cells p) 31)) w.heap.size 31 (m.cells p).toList) := hid (Row.new _ _ _)
  generalize decide (rightM m) = br at HPR HRR
  by_cases hl1 : longB m = true
  · rw [hl1] at HLGm
    clear hm hf hfd hmd hXm hl1
    go_enter Tryd.func3, Tryd.ntmps3
    go_wp2_with (first
      | (go_at_call 6; refine (HA.out _ HB0.out).mono ?_; rintro e w1 ⟨rfl, hb⟩; have HB1 := hid (HB0.out.trans (hb.mono HB0.out.size)); have R1 := hid (R0.out.below hb R0.out.lt); clear hb)
      | (go_at_call 7; refine (HLGm.out _ HB1.out).mono ?_; rintro e w2 ⟨rfl, hb⟩; have HB2 := hid (HB1.out.trans (hb.mono HB1.out.size)); have R2 := hid (R1.out.below hb R1.out.lt); clear hb)
      | (go_at_call 8; refine (HEm.out _ HB2.out).mono ?_; rintro e w3 ⟨rfl, hb⟩; have HB3 := hid (HB2.out.trans (hb.mono HB2.out.size)); have R3 := hid (R2.out.below hb R2.out.lt); clear hb)
      | (go_at_call 9; refine (HRE.out _ HB3.out).mono ?_; rintro e w4 ⟨rfl, hb⟩; have HB4 := hid (HB3.out.trans (hb.mono HB3.out.size)); have R4 := hid (R3.out.below hb R3.out.lt); clear hb)
      | ((with_reducible show wpList _ _ _ ({ dst := some 11, op := _, type := _, pos := _, after := _, guard := _ } :: _) _ _); refine wpList_load_row rfl 31 (.tmp 1) rfl w.heap.size rfl 31 (m.cells p) (0, 0) _ (Row.arr R1.out) Tryd.underlying31 rfl HZS.out ?_))
    go_ret
    exact ⟨rfl, HB2.out⟩
  have hl1 : longB m = false := by simpa using hl1
  rw [hl1] at HLGm
  by_cases h0 : f = 0
  case neg =>
    have he : (f != 0) = true := by simp [h0]
    have hXe := enc_errX hf hXm h0
    subst hXe
    clear hm hf hfd hmd hXm hl1 h0
    go_enter Tryd.func3, Tryd.ntmps3
    go_wp2_with (first
      | (go_at_call 6; refine (HA.out _ HB0.out).mono ?_; rintro e w1 ⟨rfl, hb⟩; have HB1 := hid (HB0.out.trans (hb.mono HB0.out.size)); have R1 := hid (R0.out.below hb R0.out.lt); clear hb)
      | (go_at_call 7; refine (HLGm.out _ HB1.out).mono ?_; rintro e w2 ⟨rfl, hb⟩; have HB2 := hid (HB1.out.trans (hb.mono HB1.out.size)); have R2 := hid (R1.out.below hb R1.out.lt); clear hb)
      | (go_at_call 8; refine (HEm.out _ HB2.out).mono ?_; rintro e w3 ⟨rfl, hb⟩; have HB3 := hid (HB2.out.trans (hb.mono HB2.out.size)); have R3 := hid (R2.out.below hb R2.out.lt); clear hb)
      | (go_at_call 9; refine (HRE.out _ HB3.out).mono ?_; rintro e w4 ⟨rfl, hb⟩; have HB4 := hid (HB3.out.trans (hb.mono HB3.out.size)); have R4 := hid (R3.out.below hb R3.out.lt); clear hb)
      | ((with_reducible show wpList _ _ _ ({ dst := some 11, op := _, type := _, pos := _, after := _, guard := _ } :: _) _ _); refine wpList_load_row rfl 31 (.tmp 1) rfl w.heap.size rfl 31 (m.cells p) (0, 0) _ (Row.arr R1.out) Tryd.underlying31 rfl HZS.out ?_)
      | ((with_reducible show wpList _ _ _ ({ dst := some 14, op := _, type := _, pos := _, after := _, guard := _ } :: _) _ _); refine wpList_load_row rfl 31 (.tmp 1) rfl w.heap.size rfl 31 (m.cells p) (0, 0) _ (Row.arr R2.out) Tryd.underlying31 rfl HZS.out ?_)
      | ((with_reducible show wpList _ _ _ ({ dst := some 19, op := _, type := _, pos := _, after := _, guard := _ } :: _) _ _); refine wpList_load_row rfl 31 (.tmp 1) rfl w.heap.size rfl 31 (m.cells p) (0, 0) _ (Row.arr R3.out) Tryd.underlying31 rfl HZS.out ?_))
    refine wp_region_held_drew (S := (fun W => Row W w.heap.size 31 (m.cells p).toList ∧ Below w.heap.size w W)) (by kernel_rfl) (⟨R4.out.drew, HB4.out.drew⟩) (fun hH => ?_)
    refine tk_ (i := 0) (v := .string ⟨#[]⟩) rfl (Or.inl ⟨by rfl, fun w' hw' => by clear hw'; go_simp⟩) hH ?_
    simp only [Act.put, la1, la3, la4, la5, la6]
    refine tk_ (i := 1) (v := .string ⟨#[]⟩) rfl (Or.inl ⟨by rfl, fun w' hw' => by clear hw'; go_simp⟩) hH ?_
    simp only [Act.put, la1, la2, la3, la4, la5, la6]
    refine tk_ (i := 2) (v := .bool false) rfl (Or.inl ⟨by rfl, fun w' hw' => by clear hw'; go_simp⟩) hH ?_
    simp only [Act.put, la1, la2, la3, la4, la5, la6]
    refine tk_ (i := 3) (v := .bool false) rfl (Or.inl ⟨by rfl, fun w' hw' => by clear hw'; go_simp⟩) hH ?_
    simp only [Act.put, la1, la2, la3, la4, la5, la6]
    refine tk_ (i := 4) (v := .int .i64 f) rfl (Or.inl ⟨by kernel_rfl, fun w' hw' => by clear hw'; go_simp⟩) hH ?_
    simp only [Act.put, la1, la2, la3, la4, la5, la6]
    refine tk_ (i := 5) (v := .int .i64 f) rfl (Or.inl ⟨by kernel_rfl, fun w' hw' => by clear hw'; go_simp⟩) hH ?_
    simp only [Act.put, la1, la2, la3, la4, la5, la6]
    refine tk_ (i := 6) (v := .bool false) rfl (Or.inl ⟨by rfl, fun w' hw' => by clear hw'; go_simp⟩) hH ?_
    simp only [Act.put, la1, la2, la3, la4, la5, la6]
    refine tk_ (i := 7) (v := .bool false) rfl (Or.inl ⟨by rfl, fun w' hw' => by clear hw'; go_simp⟩) hH ?_
    simp only [Act.put, la1, la2, la3, la4, la5, la6]
    refine tk_ (i := 8) (v := .bool false) rfl (Or.inl ⟨by rfl, fun w' hw' => by clear hw'; go_simp⟩) hH ?_
    simp only [Act.put, la1, la2, la3, la4, la5, la6]
    refine tk_ (i := 9) (v := .agg (m.cells p)) rfl (yieldsIf_load_mid (by kernel_rfl) 31 (.tmp 1) rfl (w.heap.size) (0) rfl (Array.toList (m.cells p)) _ (fun W hW => Row.range hW.1) Tryd.underlying31 rfl (by exact HZS.out)) hH ?_
    simp only [Act.put, la1, la2, la3, la4, la5, la6]
    refine tk_ (i := 11) (v := .agg (m.cells p)) rfl (yieldsIf_load_mid (by kernel_rfl) 31 (.tmp 1) rfl (w.heap.size) (0) rfl (Array.toList (m.cells p)) _ (fun W hW => Row.range hW.1) Tryd.underlying31 rfl (by exact HZS.out)) hH ?_
    simp only [Act.put, la1, la2, la3, la4, la5, la6]
    refine rd1 (i := 10) (by kernel_rfl) rfl (fun K hK => ?_)
    rw [if_pos (by kernel_rfl)]
    go_simp
    go_at_call 10
    refine (HPR.out _ hH.2).mono ?_
    rintro e w5 ⟨rfl, hb1⟩
    go_wp2_with fail
    refine hK.out _ _ (⟨hH.1.below hb1 hH.1.lt, hH.2.trans (hb1.mono hH.2.size)⟩) (fun hH => ?_)
    clear hK K
    try simp only [Act.put, la1, la2, la3, la4, la5, la6]
    refine rd1 (i := 12) (by kernel_rfl) rfl (fun K hK => ?_)
    rw [if_pos (by kernel_rfl)]
    go_simp
    go_at_call 11
    refine (HRR.out _ hH.2).mono ?_
    rintro e w6 ⟨rfl, hb1⟩
    go_wp2_with fail
    refine hK.out _ _ (⟨hH.1.below hb1 hH.1.lt, hH.2.trans (hb1.mono hH.2.size)⟩) (fun hH => ?_)
    clear hK K
    try simp only [Act.put, la1, la2, la3, la4, la5, la6]
    refine tk_ (i := 13) (v := .bool false) rfl (Or.inl ⟨by rfl, fun w' hw' => by clear hw'; go_simp⟩) hH ?_
    simp only [Act.put, la1, la2, la3, la4, la5, la6]
    refine tk_ (i := 14) (v := .bool false) rfl (Or.inl ⟨by rfl, fun w' hw' => by clear hw'; go_simp⟩) hH ?_
    simp only [Act.put, la1, la2, la3, la4, la5, la6]
    refine wpAnyH_done (by kernel_rfl) ?_ _
    try simp only [Act.put, la1, la2, la3, la4, la5, la6]
    go_wp2_with fail
    go_ret
    exact ⟨rfl, hH.2⟩
  subst h0
  have hlen := enc_len hXm
  have hsl := sb_len X
  have hX4 : (X.size : Int) ≤ 4096 := by omega
  have hD := dec_enc hf hXm
  have HDC : Hid (∀ W, Below w.heap.size w W → Calls Tryd.prog 12 #[.string X] W (DMp W (m, 0))) := hid fun W hW => by
    have h := mdec_any X W (hfd.below hW hfd.1) (hmd.below hW hmd.1) (by omega)
    rwa [hD] at h
  have HSM : Hid (∀ W (q : Pl), Below w.heap.size w W → PlOk W W.heap.size m q → Calls Tryd.prog 13 #[.agg (m.cells q), .agg (m.cells p)] W (VE W (.bool true))) := hid fun W q hW hq => by
    have h := same_any m m q p W.heap.size W hq ⟨rd_up (hm.a.below hW (Nat.le_refl _)) hW.size, rd_up (hm.b.below hW (Nat.le_refl _)) hW.size, hm.la, hm.lb, hm.ca, hm.cb⟩ (Nat.le_refl _) hf.2.2.2.1.1 hf.2.2.2.1.1
    rwa [decide_eq_true rfl] at h
  obtain ⟨f, hf0⟩ : ∃ f : Int, f = 0 := ⟨0, rfl⟩
  rw [← hf0] at HEm HRE
  have he : (f != 0) = false := by simp [hf0]
  have hz := zero33
  have hzs := z33_size
  have hzn := z33_ne
  clear hm hf hfd hmd hXm hl1 hlen hsl hD hf0
  go_enter Tryd.func3, Tryd.ntmps3
  go_wp2_with (first
    | (go_at_call 6; refine (HA.out _ HB0.out).mono ?_; rintro e w1 ⟨rfl, hb⟩; have HB1 := hid (HB0.out.trans (hb.mono HB0.out.size)); have R1 := hid (R0.out.below hb R0.out.lt); clear hb)
    | (go_at_call 7; refine (HLGm.out _ HB1.out).mono ?_; rintro e w2 ⟨rfl, hb⟩; have HB2 := hid (HB1.out.trans (hb.mono HB1.out.size)); have R2 := hid (R1.out.below hb R1.out.lt); clear hb)
    | (go_at_call 8; refine (HEm.out _ HB2.out).mono ?_; rintro e w3 ⟨rfl, hb⟩; have HB3 := hid (HB2.out.trans (hb.mono HB2.out.size)); have R3 := hid (R2.out.below hb R2.out.lt); clear hb)
    | (go_at_call 9; refine (HRE.out _ HB3.out).mono ?_; rintro e w4 ⟨rfl, hb⟩; have HB4 := hid (HB3.out.trans (hb.mono HB3.out.size)); have R4 := hid (R3.out.below hb R3.out.lt); clear hb)
    | ((with_reducible show wpList _ _ _ ({ dst := some 11, op := _, type := _, pos := _, after := _, guard := _ } :: _) _ _); refine wpList_load_row rfl 31 (.tmp 1) rfl w.heap.size rfl 31 (m.cells p) (0, 0) _ (Row.arr R1.out) Tryd.underlying31 rfl HZS.out ?_)
    | ((with_reducible show wpList _ _ _ ({ dst := some 14, op := _, type := _, pos := _, after := _, guard := _ } :: _) _ _); refine wpList_load_row rfl 31 (.tmp 1) rfl w.heap.size rfl 31 (m.cells p) (0, 0) _ (Row.arr R2.out) Tryd.underlying31 rfl HZS.out ?_)
    | ((with_reducible show wpList _ _ _ ({ dst := some 19, op := _, type := _, pos := _, after := _, guard := _ } :: _) _ _); refine wpList_load_row rfl 31 (.tmp 1) rfl w.heap.size rfl 31 (m.cells p) (0, 0) _ (Row.arr R3.out) Tryd.underlying31 rfl HZS.out ?_))
  refine wp_region_held_drew (S := (fun W => Row W w.heap.size 31 (m.cells p).toList ∧ Below w.heap.size w W)) (by kernel_rfl) (⟨R4.out.drew, HB4.out.drew⟩) (fun hH => ?_)
  refine tk_ (i := 0) (v := .string X) rfl (Or.inl ⟨by rfl, fun w' hw' => by clear hw'; go_simp⟩) hH ?_
  simp only [Act.put, la1, la3, la4, la5, la6]
  refine tk_ (i := 1) (v := .string X) rfl (Or.inl ⟨by rfl, fun w' hw' => by clear hw'; go_simp⟩) hH ?_
  simp only [Act.put, la1, la2, la3, la4, la5, la6]
  refine tk_ (i := 2) (v := .bool false) rfl (Or.inl ⟨by rfl, fun w' hw' => by clear hw'; go_simp⟩) hH ?_
  simp only [Act.put, la1, la2, la3, la4, la5, la6]
  refine tk_ (i := 3) (v := .bool false) rfl (Or.inl ⟨by rfl, fun w' hw' => by clear hw'; go_simp⟩) hH ?_
  simp only [Act.put, la1, la2, la3, la4, la5, la6]
  refine tk_ (i := 4) (v := .int .i64 f) rfl (Or.inl ⟨by kernel_rfl, fun w' hw' => by clear hw'; go_simp⟩) hH ?_
  simp only [Act.put, la1, la2, la3, la4, la5, la6]
  refine tk_ (i := 5) (v := .int .i64 f) rfl (Or.inl ⟨by kernel_rfl, fun w' hw' => by clear hw'; go_simp⟩) hH ?_
  simp only [Act.put, la1, la2, la3, la4, la5, la6]
  refine tk_ (i := 6) (v := .bool false) rfl (Or.inl ⟨by rfl, fun w' hw' => by clear hw'; go_simp⟩) hH ?_
  simp only [Act.put, la1, la2, la3, la4, la5, la6]
  refine tk_ (i := 7) (v := .bool false) rfl (Or.inl ⟨by rfl, fun w' hw' => by clear hw'; go_simp⟩) hH ?_
  simp only [Act.put, la1, la2, la3, la4, la5, la6]
  refine tk_ (i := 8) (v := .bool false) rfl (Or.inl ⟨by rfl, fun w' hw' => by clear hw'; go_simp⟩) hH ?_
  simp only [Act.put, la1, la2, la3, la4, la5, la6]
  refine tk_ (i := 9) (v := .agg (m.cells p)) rfl (yieldsIf_load_mid (by kernel_rfl) 31 (.tmp 1) rfl (w.heap.size) (0) rfl (Array.toList (m.cells p)) _ (fun W hW => Row.range hW.1) Tryd.underlying31 rfl (by exact HZS.out)) hH ?_
  simp only [Act.put, la1, la2, la3, la4, la5, la6]
  refine tk_ (i := 11) (v := .agg (m.cells p)) rfl (yieldsIf_load_mid (by kernel_rfl) 31 (.tmp 1) rfl (w.heap.size) (0) rfl (Array.toList (m.cells p)) _ (fun W hW => Row.range hW.1) Tryd.underlying31 rfl (by exact HZS.out)) hH ?_
  simp only [Act.put, la1, la2, la3, la4, la5, la6]
  refine rd1 (i := 10) (by kernel_rfl) rfl (fun K hK => ?_)
  rw [if_pos (by kernel_rfl)]
  go_simp
  go_at_call 10
  refine (HPR.out _ hH.2).mono ?_
  rintro e w5 ⟨rfl, hb1⟩
  go_wp2_with fail
  refine hK.out _ _ (⟨hH.1.below hb1 hH.1.lt, hH.2.trans (hb1.mono hH.2.size)⟩) (fun hH => ?_)
  clear hK K
  try simp only [Act.put, la1, la2, la3, la4, la5, la6]
  refine rd1 (i := 12) (by kernel_rfl) rfl (fun K hK => ?_)
  rw [if_pos (by kernel_rfl)]
  go_simp
  go_at_call 11
  refine (HRR.out _ hH.2).mono ?_
  rintro e w6 ⟨rfl, hb1⟩
  go_wp2_with fail
  refine hK.out _ _ (⟨hH.1.below hb1 hH.1.lt, hH.2.trans (hb1.mono hH.2.size)⟩) (fun hH => ?_)
  clear hK K
  try simp only [Act.put, la1, la2, la3, la4, la5, la6]
  refine tk_ (i := 13) (v := .bool false) rfl (Or.inl ⟨by rfl, fun w' hw' => by clear hw'; go_simp⟩) hH ?_
  simp only [Act.put, la1, la2, la3, la4, la5, la6]
  refine tk_ (i := 14) (v := .bool false) rfl (Or.inl ⟨by rfl, fun w' hw' => by clear hw'; go_simp⟩) hH ?_
  simp only [Act.put, la1, la2, la3, la4, la5, la6]
  refine wpAnyH_done (by kernel_rfl) ?_ _
  try simp only [Act.put, la1, la2, la3, la4, la5, la6]
  have HB6 := hid hH.2
  have R6 := hid hH.1
  clear hH
  go_wp2_with (first
    | (go_at_call 12; refine (HDC.out _ HB6.out).mono ?_; rintro e w7 ⟨p7, rfl, hp7, hb⟩; have HB7 := hid (HB6.out.trans (hb.mono HB6.out.size)); have R7 := hid (R6.out.below hb R6.out.lt); have HP7 := hid hp7; clear hb hp7)
    | ((with_reducible show wpList _ _ _ ({ dst := none, op := .store _ (.tmp 7) _, type := _, pos := _, after := _, guard := _ } :: _) _ _); refine wpl_store_st rfl (.tmp 7) (.tmp 45) rfl HZS.out w7.heap.size z33 (m.cells p7) rfl rfl (Row.new _ _ _) ?_ (hid (by simp [z33])) (hid rfl) (hid (msOneP _ _)); intro w8 hr8 hg8; have hb8 : Below w7.heap.size w7 w8 := ((Below.refl _ _).alloc (Nat.le_refl _) (.cells z33 31)).trans (below_grown hg8 (Nat.le_refl _) (by simp)); have HB8 := hid (HB7.out.trans (hb8.mono HB7.out.size)); have R8 := hid (R7.out.below hb8 R7.out.lt); have R78 := hid hr8; have HP8 := hid (show PlOk w8 w8.heap.size m p7 from ⟨rd_up (HP7.out.a.below hb8 (Nat.le_refl _)) hb8.size, rd_up (HP7.out.b.below hb8 (Nat.le_refl _)) hb8.size, HP7.out.la, HP7.out.lb, HP7.out.ca, HP7.out.cb⟩); clear hb8 hr8 hg8)
    | ((with_reducible show wpList _ _ _ ({ dst := some 50, op := _, type := _, pos := _, after := _, guard := _ } :: _) _ _); refine wpl_load_want rfl 31 (.tmp 7) rfl w7.heap.size rfl 31 (m.cells p7) (0, 0) _ (Row.arr R78.out) Tryd.underlying31 rfl HZS.out ?_)
    | ((with_reducible show wpList _ _ _ ({ dst := some 51, op := _, type := _, pos := _, after := _, guard := _ } :: _) _ _); refine wpl_load_want rfl 31 (.tmp 1) rfl w.heap.size rfl 31 (m.cells p) (0, 0) _ (Row.arr R8.out) Tryd.underlying31 rfl HZS.out ?_)
    | (go_at_call 13; refine (HSM.out _ _ HB8.out HP8.out).mono ?_; rintro e w9 ⟨rfl, hb⟩; have HB9 := hid (HB8.out.trans (hb.mono HB8.out.size)); clear hb))
  go_ret
  exact ⟨rfl, HB9.out⟩
end Go.Proofs.YtcildaeiogdfdaaDoor
