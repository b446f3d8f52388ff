/-
  The walk of MsgUnlike.
-/
import Derived.Test.YtcildaeiogdfdaaDoorM33
import Derived.Test.YtcildaeiogdfdaaDoorLt
import Derived.Test.YtcildaeiogdfdaaDoorM20
import Derived.Test.YtcildaeiogdfdaaDoorM19
namespace Go.Proofs.YtcildaeiogdfdaaDoor
open Go.RowKit
set_option maxRecDepth 10000

set_option maxHeartbeats 8000000 in
theorem munlike_law (m n : Ms) (p q : Pl) (w : World) (hm : PlOk w w.heap.size m p) (hn : PlOk w w.heap.size n q) (hf : m.fits) (hg : n.fits) (hfd : Fd w) (hmd : Md w) :
    Calls Tryd.prog 5 #[.agg (m.cells p), .agg (n.cells q)] w (Yes w) := by
  have HZS := hid mssize
  have HA : Hid (∀ W, Below w.heap.size w W → Calls Tryd.prog 6 #[] W (Yes W)) := hid fun W hW => awake17_any W (hfd.below hW hfd.1) (hmd.below hW hmd.1)
  have HLGm : Hid (∀ W, Below w.heap.size w W → Calls Tryd.prog 7 #[.agg (m.cells p)] W (VE W (.bool (longB m)))) := hid fun W hW => long_any m p w.heap.size W ⟨hm.a.below hW (Nat.le_refl _), hm.b.below hW (Nat.le_refl _), hm.la, hm.lb, hm.ca, hm.cb⟩ hW.size
  obtain ⟨X, f, hXm⟩ : ∃ (X : ByteArray) (f : Int), encM m = (sb X, f) := ⟨⟨(encM m).1.toArray⟩, (encM m).2, by rw [sb_mk]⟩
  have HEm : Hid (∀ W, Below w.heap.size w W → Calls Tryd.prog 8 #[.agg (m.cells p)] W fun x W' => x = .returned (.tuple #[.string X, .int .i64 f]) ∧ Below W.heap.size W W') := hid fun W hW => by
    have h := menc_any m p w.heap.size W ⟨hm.a.below hW (Nat.le_refl _), hm.b.below hW (Nat.le_refl _), hm.la, hm.lb, hm.ca, hm.cb⟩ hW.size hf (hfd.below hW hfd.1) (hmd.below hW hmd.1)
    rw [hXm] at h
    unfold SN at h
    rw [mk_sb] at h
    exact h
  have HLGn : Hid (∀ W, Below w.heap.size w W → Calls Tryd.prog 7 #[.agg (n.cells q)] W (VE W (.bool (longB n)))) := hid fun W hW => long_any n q w.heap.size W ⟨hn.a.below hW (Nat.le_refl _), hn.b.below hW (Nat.le_refl _), hn.la, hn.lb, hn.ca, hn.cb⟩ hW.size
  obtain ⟨Y, g, hXn⟩ : ∃ (X : ByteArray) (f : Int), encM n = (sb X, f) := ⟨⟨(encM n).1.toArray⟩, (encM n).2, by rw [sb_mk]⟩
  have HEn : Hid (∀ W, Below w.heap.size w W → Calls Tryd.prog 8 #[.agg (n.cells q)] W fun x W' => x = .returned (.tuple #[.string Y, .int .i64 g]) ∧ Below W.heap.size W W') := hid fun W hW => by
    have h := menc_any n q w.heap.size W ⟨hn.a.below hW (Nat.le_refl _), hn.b.below hW (Nat.le_refl _), hn.la, hn.lb, hn.ca, hn.cb⟩ hW.size hg (hfd.below hW hfd.1) (hmd.below hW hmd.1)
    rw [hXn] at h
    unfold SN at h
    rw [mk_sb] at h
    exact h
  have HSM : Hid (∀ W, Below w.heap.size w W → Calls Tryd.prog 13 #[.agg (m.cells p), .agg (n.cells q)] W (VE W (.bool (decide (m = n))))) := hid fun W hW =>
    same_any m n p q w.heap.size W ⟨hm.a.below hW (Nat.le_refl _), hm.b.below hW (Nat.le_refl _), hm.la, hm.lb, hm.ca, hm.cb⟩ ⟨hn.a.below hW (Nat.le_refl _), hn.b.below hW (Nat.le_refl _), hn.la, hn.lb, hn.ca, hn.cb⟩ hW.size hf.2.2.2.1.1 hg.2.2.2.1.1
  have HB0 : Hid (Below w.heap.size w ((w.alloc (.cells (m.cells p) 31)).alloc (.cells (n.cells q) 31))) := hid (((Below.refl _ _).alloc (Nat.le_refl _) _).alloc (by simp) _)
  have R0 : Hid (Row ((w.alloc (.cells (m.cells p) 31)).alloc (.cells (n.cells q) 31)) w.heap.size 31 (m.cells p).toList) := hid ((Row.new w 31 (m.cells p)).alloc _)
  have Q0 : Hid (Row ((w.alloc (.cells (m.cells p) 31)).alloc (.cells (n.cells q) 31)) (w.heap.size + 1) 31 (n.cells q).toList) := hid (by
    have := Row.new (w.alloc (.cells (m.cells p) 31)) 31 (n.cells q)
    simpa using this)
  by_cases hl1 : longB m = true
  · rw [hl1] at HLGm
    clear hm hn hf hg hfd hmd hXm hXn hl1
    go_enter Tryd.func5, Tryd.ntmps5
    go_wp2_with (first
      | (go_at_call 7; refine (HLGn.out _ HB2.out).mono ?_; rintro e WHB3 ⟨rfl, hb⟩; have HB3 := hid (HB2.out.trans (hb.mono HB2.out.size)); have R3 := hid (R2.out.below hb R2.out.lt); have Q3 := hid (Q2.out.below hb Q2.out.lt); clear hb)
      | (go_at_call 7; refine (HLGm.out _ HB1.out).mono ?_; rintro e WHB2 ⟨rfl, hb⟩; have HB2 := hid (HB1.out.trans (hb.mono HB1.out.size)); have R2 := hid (R1.out.below hb R1.out.lt); have Q2 := hid (Q1.out.below hb Q1.out.lt); clear hb)
      | (go_at_call 6; refine (HA.out _ HB0.out).mono ?_; rintro e WHB1 ⟨rfl, hb⟩; have HB1 := hid (HB0.out.trans (hb.mono HB0.out.size)); have R1 := hid (R0.out.below hb R0.out.lt); have Q1 := hid (Q0.out.below hb Q0.out.lt); clear hb)
      | ((with_reducible show wpList _ _ _ ({ dst := some 11, op := _, type := _, pos := _, after := _, guard := _ } :: _) _ _); refine wpList_load_row rfl 31 (.tmp 2) rfl w.heap.size rfl 31 (m.cells p) (0, 0) _ (Row.arr R1.out) Tryd.underlying31 rfl HZS.out ?_)
      | ((with_reducible show wpList _ _ _ ({ dst := some 11, op := _, type := _, pos := _, after := _, guard := _ } :: _) _ _); refine wpl_load_want rfl 31 (.tmp 2) rfl w.heap.size rfl 31 (m.cells p) (0, 0) _ (Row.arr R1.out) Tryd.underlying31 rfl HZS.out ?_))
    go_ret
    exact ⟨rfl, HB2.out⟩
  have hl1 : longB m = false := by simpa using hl1
  rw [hl1] at HLGm
  by_cases hl2 : longB n = true
  · rw [hl2] at HLGn
    clear hm hn hf hg hfd hmd hXm hXn hl1
    go_enter Tryd.func5, Tryd.ntmps5
    go_wp2_with (first
      | (go_at_call 7; refine (HLGn.out _ HB2.out).mono ?_; rintro e WHB3 ⟨rfl, hb⟩; have HB3 := hid (HB2.out.trans (hb.mono HB2.out.size)); have R3 := hid (R2.out.below hb R2.out.lt); have Q3 := hid (Q2.out.below hb Q2.out.lt); clear hb)
      | (go_at_call 7; refine (HLGm.out _ HB1.out).mono ?_; rintro e WHB2 ⟨rfl, hb⟩; have HB2 := hid (HB1.out.trans (hb.mono HB1.out.size)); have R2 := hid (R1.out.below hb R1.out.lt); have Q2 := hid (Q1.out.below hb Q1.out.lt); clear hb)
      | (go_at_call 6; refine (HA.out _ HB0.out).mono ?_; rintro e WHB1 ⟨rfl, hb⟩; have HB1 := hid (HB0.out.trans (hb.mono HB0.out.size)); have R1 := hid (R0.out.below hb R0.out.lt); have Q1 := hid (Q0.out.below hb Q0.out.lt); clear hb)
      | ((with_reducible show wpList _ _ _ ({ dst := some 11, op := _, type := _, pos := _, after := _, guard := _ } :: _) _ _); refine wpList_load_row rfl 31 (.tmp 2) rfl w.heap.size rfl 31 (m.cells p) (0, 0) _ (Row.arr R1.out) Tryd.underlying31 rfl HZS.out ?_)
      | ((with_reducible show wpList _ _ _ ({ dst := some 14, op := _, type := _, pos := _, after := _, guard := _ } :: _) _ _); refine wpl_load_want rfl 31 (.tmp 3) rfl (w.heap.size + 1) rfl 31 (n.cells q) (0, 0) _ (Row.arr Q2.out) Tryd.underlying31 rfl HZS.out ?_))
    go_ret
    exact ⟨rfl, HB3.out⟩
  have hl2 : longB n = false := by simpa using hl2
  rw [hl2] at HLGn
  by_cases h0 : f = 0
  case neg =>
    have he : (f != 0) = true := by simp [h0]
    clear hm hn hf hg hfd hmd hXm hXn hl1 hl2
    go_enter Tryd.func5, Tryd.ntmps5
    go_wp2_with (first
      | (go_at_call 13; refine (HSM.out _ HB5.out).mono ?_; rintro e WHB6 ⟨rfl, hb⟩; have HB6 := hid (HB5.out.trans (hb.mono HB5.out.size)); have R6 := hid (R5.out.below hb R5.out.lt); have Q6 := hid (Q5.out.below hb Q5.out.lt); clear hb)
      | (go_at_call 8; refine (HEn.out _ HB4.out).mono ?_; rintro e WHB5 ⟨rfl, hb⟩; have HB5 := hid (HB4.out.trans (hb.mono HB4.out.size)); have R5 := hid (R4.out.below hb R4.out.lt); have Q5 := hid (Q4.out.below hb Q4.out.lt); clear hb)
      | (go_at_call 8; refine (HEm.out _ HB3.out).mono ?_; rintro e WHB4 ⟨rfl, hb⟩; have HB4 := hid (HB3.out.trans (hb.mono HB3.out.size)); have R4 := hid (R3.out.below hb R3.out.lt); have Q4 := hid (Q3.out.below hb Q3.out.lt); clear hb)
      | (go_at_call 7; refine (HLGn.out _ HB2.out).mono ?_; rintro e WHB3 ⟨rfl, hb⟩; have HB3 := hid (HB2.out.trans (hb.mono HB2.out.size)); have R3 := hid (R2.out.below hb R2.out.lt); have Q3 := hid (Q2.out.below hb Q2.out.lt); clear hb)
      | (go_at_call 7; refine (HLGm.out _ HB1.out).mono ?_; rintro e WHB2 ⟨rfl, hb⟩; have HB2 := hid (HB1.out.trans (hb.mono HB1.out.size)); have R2 := hid (R1.out.below hb R1.out.lt); have Q2 := hid (Q1.out.below hb Q1.out.lt); clear hb)
      | (go_at_call 6; refine (HA.out _ HB0.out).mono ?_; rintro e WHB1 ⟨rfl, hb⟩; have HB1 := hid (HB0.out.trans (hb.mono HB0.out.size)); have R1 := hid (R0.out.below hb R0.out.lt); have Q1 := hid (Q0.out.below hb Q0.out.lt); clear hb)
      | ((with_reducible show wpList _ _ _ ({ dst := some 11, op := _, type := _, pos := _, after := _, guard := _ } :: _) _ _); refine wpList_load_row rfl 31 (.tmp 2) rfl w.heap.size rfl 31 (m.cells p) (0, 0) _ (Row.arr R1.out) Tryd.underlying31 rfl HZS.out ?_)
      | ((with_reducible show wpList _ _ _ ({ dst := some 14, op := _, type := _, pos := _, after := _, guard := _ } :: _) _ _); refine wpl_load_want rfl 31 (.tmp 3) rfl (w.heap.size + 1) rfl 31 (n.cells q) (0, 0) _ (Row.arr Q2.out) Tryd.underlying31 rfl HZS.out ?_)
      | ((with_reducible show wpList _ _ _ ({ dst := some 18, op := _, type := _, pos := _, after := _, guard := _ } :: _) _ _); refine wpList_load_row rfl 31 (.tmp 2) rfl w.heap.size rfl 31 (m.cells p) (0, 0) _ (Row.arr R3.out) Tryd.underlying31 rfl HZS.out ?_)
      | ((with_reducible show wpList _ _ _ ({ dst := some 23, op := _, type := _, pos := _, after := _, guard := _ } :: _) _ _); refine wpList_load_row rfl 31 (.tmp 3) rfl (w.heap.size + 1) rfl 31 (n.cells q) (0, 0) _ (Row.arr Q4.out) Tryd.underlying31 rfl HZS.out ?_)
      | ((with_reducible show wpList _ _ _ ({ dst := some 37, op := _, type := _, pos := _, after := _, guard := _ } :: _) _ _); refine wpl_load_want rfl 31 (.tmp 2) rfl w.heap.size rfl 31 (m.cells p) (0, 0) _ (Row.arr R5.out) Tryd.underlying31 rfl HZS.out ?_)
      | ((with_reducible show wpList _ _ _ ({ dst := some 38, op := _, type := _, pos := _, after := _, guard := _ } :: _) _ _); refine wpl_load_want rfl 31 (.tmp 3) rfl (w.heap.size + 1) rfl 31 (n.cells q) (0, 0) _ (Row.arr Q5.out) Tryd.underlying31 rfl HZS.out ?_))
    go_ret
    exact ⟨rfl, HB5.out⟩
  by_cases h1 : g = 0
  case neg =>
    have he0 : (f != 0) = false := by simp [h0]
    have he : (g != 0) = true := by simp [h1]
    clear hm hn hf hg hfd hmd hXm hXn hl1 hl2
    go_enter Tryd.func5, Tryd.ntmps5
    go_wp2_with (first
      | (go_at_call 13; refine (HSM.out _ HB5.out).mono ?_; rintro e WHB6 ⟨rfl, hb⟩; have HB6 := hid (HB5.out.trans (hb.mono HB5.out.size)); have R6 := hid (R5.out.below hb R5.out.lt); have Q6 := hid (Q5.out.below hb Q5.out.lt); clear hb)
      | (go_at_call 8; refine (HEn.out _ HB4.out).mono ?_; rintro e WHB5 ⟨rfl, hb⟩; have HB5 := hid (HB4.out.trans (hb.mono HB4.out.size)); have R5 := hid (R4.out.below hb R4.out.lt); have Q5 := hid (Q4.out.below hb Q4.out.lt); clear hb)
      | (go_at_call 8; refine (HEm.out _ HB3.out).mono ?_; rintro e WHB4 ⟨rfl, hb⟩; have HB4 := hid (HB3.out.trans (hb.mono HB3.out.size)); have R4 := hid (R3.out.below hb R3.out.lt); have Q4 := hid (Q3.out.below hb Q3.out.lt); clear hb)
      | (go_at_call 7; refine (HLGn.out _ HB2.out).mono ?_; rintro e WHB3 ⟨rfl, hb⟩; have HB3 := hid (HB2.out.trans (hb.mono HB2.out.size)); have R3 := hid (R2.out.below hb R2.out.lt); have Q3 := hid (Q2.out.below hb Q2.out.lt); clear hb)
      | (go_at_call 7; refine (HLGm.out _ HB1.out).mono ?_; rintro e WHB2 ⟨rfl, hb⟩; have HB2 := hid (HB1.out.trans (hb.mono HB1.out.size)); have R2 := hid (R1.out.below hb R1.out.lt); have Q2 := hid (Q1.out.below hb Q1.out.lt); clear hb)
      | (go_at_call 6; refine (HA.out _ HB0.out).mono ?_; rintro e WHB1 ⟨rfl, hb⟩; have HB1 := hid (HB0.out.trans (hb.mono HB0.out.size)); have R1 := hid (R0.out.below hb R0.out.lt); have Q1 := hid (Q0.out.below hb Q0.out.lt); clear hb)
      | ((with_reducible show wpList _ _ _ ({ dst := some 11, op := _, type := _, pos := _, after := _, guard := _ } :: _) _ _); refine wpList_load_row rfl 31 (.tmp 2) rfl w.heap.size rfl 31 (m.cells p) (0, 0) _ (Row.arr R1.out) Tryd.underlying31 rfl HZS.out ?_)
      | ((with_reducible show wpList _ _ _ ({ dst := some 14, op := _, type := _, pos := _, after := _, guard := _ } :: _) _ _); refine wpl_load_want rfl 31 (.tmp 3) rfl (w.heap.size + 1) rfl 31 (n.cells q) (0, 0) _ (Row.arr Q2.out) Tryd.underlying31 rfl HZS.out ?_)
      | ((with_reducible show wpList _ _ _ ({ dst := some 18, op := _, type := _, pos := _, after := _, guard := _ } :: _) _ _); refine wpList_load_row rfl 31 (.tmp 2) rfl w.heap.size rfl 31 (m.cells p) (0, 0) _ (Row.arr R3.out) Tryd.underlying31 rfl HZS.out ?_)
      | ((with_reducible show wpList _ _ _ ({ dst := some 23, op := _, type := _, pos := _, after := _, guard := _ } :: _) _ _); refine wpList_load_row rfl 31 (.tmp 3) rfl (w.heap.size + 1) rfl 31 (n.cells q) (0, 0) _ (Row.arr Q4.out) Tryd.underlying31 rfl HZS.out ?_)
      | ((with_reducible show wpList _ _ _ ({ dst := some 37, op := _, type := _, pos := _, after := _, guard := _ } :: _) _ _); refine wpl_load_want rfl 31 (.tmp 2) rfl w.heap.size rfl 31 (m.cells p) (0, 0) _ (Row.arr R5.out) Tryd.underlying31 rfl HZS.out ?_)
      | ((with_reducible show wpList _ _ _ ({ dst := some 38, op := _, type := _, pos := _, after := _, guard := _ } :: _) _ _); refine wpl_load_want rfl 31 (.tmp 3) rfl (w.heap.size + 1) rfl 31 (n.cells q) (0, 0) _ (Row.arr Q5.out) Tryd.underlying31 rfl HZS.out ?_))
    go_ret
    exact ⟨rfl, HB5.out⟩
  subst h0 h1
  obtain ⟨b, hb⟩ : ∃ b, decide (m = n) = b := ⟨_, rfl⟩
  rw [hb] at HSM
  have hxy2 : (X.toList == Y.toList) = b := by
    rw [← hb, Bool.eq_iff_iff, beq_iff_eq, decide_eq_true_iff, ByteArray.toList_eq, ByteArray.toList_eq]
    constructor
    · intro e
      have e2 : X = Y := ByteArray.ext (Array.toList_inj.1 e)
      subst e2
      exact enc_inj hf hg hXm hXn
    · intro e
      subst e
      exact (Prod.mk.inj (hXm.symm.trans hXn)).1
  clear hm hn hf hg hfd hmd hXm hXn hl1 hl2 hb
  go_enter Tryd.func5, Tryd.ntmps5
  go_wp2_with (first
    | (go_at_call 13; refine (HSM.out _ HB5.out).mono ?_; rintro e WHB6 ⟨rfl, hb⟩; have HB6 := hid (HB5.out.trans (hb.mono HB5.out.size)); have R6 := hid (R5.out.below hb R5.out.lt); have Q6 := hid (Q5.out.below hb Q5.out.lt); clear hb)
    | (go_at_call 8; refine (HEn.out _ HB4.out).mono ?_; rintro e WHB5 ⟨rfl, hb⟩; have HB5 := hid (HB4.out.trans (hb.mono HB4.out.size)); have R5 := hid (R4.out.below hb R4.out.lt); have Q5 := hid (Q4.out.below hb Q4.out.lt); clear hb)
    | (go_at_call 8; refine (HEm.out _ HB3.out).mono ?_; rintro e WHB4 ⟨rfl, hb⟩; have HB4 := hid (HB3.out.trans (hb.mono HB3.out.size)); have R4 := hid (R3.out.below hb R3.out.lt); have Q4 := hid (Q3.out.below hb Q3.out.lt); clear hb)
    | (go_at_call 7; refine (HLGn.out _ HB2.out).mono ?_; rintro e WHB3 ⟨rfl, hb⟩; have HB3 := hid (HB2.out.trans (hb.mono HB2.out.size)); have R3 := hid (R2.out.below hb R2.out.lt); have Q3 := hid (Q2.out.below hb Q2.out.lt); clear hb)
    | (go_at_call 7; refine (HLGm.out _ HB1.out).mono ?_; rintro e WHB2 ⟨rfl, hb⟩; have HB2 := hid (HB1.out.trans (hb.mono HB1.out.size)); have R2 := hid (R1.out.below hb R1.out.lt); have Q2 := hid (Q1.out.below hb Q1.out.lt); clear hb)
    | (go_at_call 6; refine (HA.out _ HB0.out).mono ?_; rintro e WHB1 ⟨rfl, hb⟩; have HB1 := hid (HB0.out.trans (hb.mono HB0.out.size)); have R1 := hid (R0.out.below hb R0.out.lt); have Q1 := hid (Q0.out.below hb Q0.out.lt); clear hb)
    | ((with_reducible show wpList _ _ _ ({ dst := some 11, op := _, type := _, pos := _, after := _, guard := _ } :: _) _ _); refine wpList_load_row rfl 31 (.tmp 2) rfl w.heap.size rfl 31 (m.cells p) (0, 0) _ (Row.arr R1.out) Tryd.underlying31 rfl HZS.out ?_)
    | ((with_reducible show wpList _ _ _ ({ dst := some 14, op := _, type := _, pos := _, after := _, guard := _ } :: _) _ _); refine wpl_load_want rfl 31 (.tmp 3) rfl (w.heap.size + 1) rfl 31 (n.cells q) (0, 0) _ (Row.arr Q2.out) Tryd.underlying31 rfl HZS.out ?_)
    | ((with_reducible show wpList _ _ _ ({ dst := some 18, op := _, type := _, pos := _, after := _, guard := _ } :: _) _ _); refine wpList_load_row rfl 31 (.tmp 2) rfl w.heap.size rfl 31 (m.cells p) (0, 0) _ (Row.arr R3.out) Tryd.underlying31 rfl HZS.out ?_)
    | ((with_reducible show wpList _ _ _ ({ dst := some 23, op := _, type := _, pos := _, after := _, guard := _ } :: _) _ _); refine wpList_load_row rfl 31 (.tmp 3) rfl (w.heap.size + 1) rfl 31 (n.cells q) (0, 0) _ (Row.arr Q4.out) Tryd.underlying31 rfl HZS.out ?_)
    | ((with_reducible show wpList _ _ _ ({ dst := some 37, op := _, type := _, pos := _, after := _, guard := _ } :: _) _ _); refine wpl_load_want rfl 31 (.tmp 2) rfl w.heap.size rfl 31 (m.cells p) (0, 0) _ (Row.arr R5.out) Tryd.underlying31 rfl HZS.out ?_)
    | ((with_reducible show wpList _ _ _ ({ dst := some 38, op := _, type := _, pos := _, after := _, guard := _ } :: _) _ _); refine wpl_load_want rfl 31 (.tmp 3) rfl (w.heap.size + 1) rfl 31 (n.cells q) (0, 0) _ (Row.arr Q5.out) Tryd.underlying31 rfl HZS.out ?_))
  go_ret
  exact ⟨by cases b <;> simp, HB6.out⟩
end Go.Proofs.YtcildaeiogdfdaaDoor
