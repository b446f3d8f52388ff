/-
  The walk of the law JournalKeeps.
-/
import Derived.Test.YtafbeepacncooaaDoorKq1
import Derived.BigQuiet
import Derived.Deep.CutRange
import Derived.Deep.DeepCutAuto
namespace Go.Proofs.YtafbeepacncooaaDoor
open Go.RowKit
set_option maxRecDepth 10000

set_option maxHeartbeats 80000000 in
theorem keeps_law13 (A : Option Addr) (l cap : Nat) (XS : List Ac) (w : World) (hl : l = XS.length) (hl2 : l ≤ 9223372036854775807) (hXS : ∀ X ∈ XS, ActOk X.x w X.A X.x.picks.length) (hrd : Rd w w.heap.size A (XS.map Ac.cells).flatten) (hf : Fd w) :
  Calls Tryd.prog 3 #[.slice A l cap] w (Yes w) := by
 subst hl
 obtain ⟨SF, S0, X0, e1, e2, c1, z0, c0, i1, _, i3⟩ := begin13
 have HA := hid (fun W (hW : Fd W) => awake13_any W hW)
 have HB : Hid (∀ W, Fd W → Calls Tryd.prog 8 #[] W fun e w' => ∃ bw p gs, e = .returned (.pointer (some ⟨bw, 0, none⟩)) ∧ Wj W w' bw p gs ⟨S0, some ⟨0, X0⟩, 0⟩ []) := hid fun W hW => begin13_any e1 e2 c1 W hW
 have HI1 : Hid (InvE (fun _ => en0) ⟨S0, some ⟨0, X0⟩, 0⟩) := hid ⟨i1, i3⟩
 have HC0 := hid c0
 have HXS := hid hXS
 have HRD := hid hrd
 have HL2 := hid hl2
 have HF := hid hf
 clear e1 e2 c1 z0 c0 i1 i3 hXS hrd hf hl2
 go_enter Tryd.func3, Tryd.ntmps3
 go_wp2_with (first
  | (go_at_call 7; refine (HA.out _ HF.out).mono ?_; rintro e w1 ⟨rfl, hb⟩; have B1 := hid hb; clear hb)
  | (go_at_call 8; refine (HB.out _ (HF.out.below B1.out HF.out.1)).mono ?_; rintro e w2 ⟨bw, p, gs, rfl, q⟩; have H2 := hid q; clear q))
 have HXS1 : Hid (∀ X ∈ XS, ActOk X.x w1 X.A X.x.picks.length) := hid fun X hX => (HXS.out X hX).below B1.out
 have HRD1 : Hid (∀ W, Below w1.heap.size w1 W → ∀ k (hk : k < XS.length), ∃ g o, A = some ⟨g, o, none⟩ ∧ W.rangeAt g (o + k * 15) XS[k].cells) := hid fun W hb k hk => acts_range HRD.out (B1.out.trans (hb.mono B1.out.size)) hk
 clear HXS HRD
 generalize hkb : w2.heap.size = kb at *
 have HKB := hid hkb
 have HKL : Hid (w1.heap.size ≤ kb) := hid (by rw [← hkb]; exact H2.out.dd.size)
 go_loopw [5] (fun i wr => ∃ (k : Nat) (v : Wd) (E : Nat → En), k ≤ XS.length ∧ k ≤ 50 ∧ i = .int .i64 k ∧ Hid (InvE E v) ∧ v.S.count ≤ 17 + 32 * k ∧ Wj w1 wr bw p gs v [kb] ∧ Row wr kb 29 (kC E)) (fun i _ => 50 - (intOf i).toNat)
 case atStart =>
  have hb : Below w2.heap.size w2 (w2.alloc (.cells (kC fun _ => en0).toArray 29 (0, 0))) := (Below.refl _ _).alloc (Nat.le_refl _) _
  have hr : Row (w2.alloc (.cells (kC fun _ => en0).toArray 29 (0, 0))) kb 29 (kC fun _ => en0) := by rw [← hkb]; exact Row.new _ _ _
  exact ⟨0, _, fun _ => en0, by omega, by omega, rfl, HI1, by have := HC0.out; show S0.count ≤ _; omega, H2.out.add hb (by rw [hkb]; exact Nat.le_refl _) hr.lt, hr⟩
 case round =>
  as_aux_lemma =>
   clear hkb H2 HI1 HC0
   obtain ⟨k, v, E, hk, hk5, rfl, hi, hc, hj, hr⟩ := hrel
   have HJ := hid hj
   have HR := hid hr
   have hl3 := HL2.out
   clear hr
   by_cases hlt : k < XS.length
   ·
    by_cases hlt5 : k < 50
    ·
     have hb : (k : Int) < (XS.length : Int) := by omega
     have hb5 : (k : Int) < 50 := by omega
     have hok := HXS1.out _ (List.getElem_mem hlt)
     obtain ⟨g, o, rfl, hrg⟩ := HRD1.out wr hj.below k hlt
     have HRG := hid hrg
     have HFA : Hid (∀ W, Calls Tryd.prog 9 #[.agg (actC XS[k].x XS[k].A XS[k].x.picks.length XS[k].cap)] W fun e w' => e = .returned (.bool (decide (1000 < (XS[k].x.e.body.size : Int)))) ∧ Below W.heap.size W w') := hid fun W => far_any _ _ _ _ W
     have HOK := hid hok
     have HCC := hid hc
     have HIV := hid hi.out
     clear hi hc hok hrg HXS1 HRD1 hk hk5
     obtain ⟨C, hC⟩ : ∃ C, C = actC XS[k].x XS[k].A XS[k].x.picks.length XS[k].cap := ⟨_, rfl⟩
     have HRG2 : Hid (wr.rangeAt g (o + k * 15) C.toList) := hid (by rw [hC]; exact HRG.out)
     have HCS : Hid (C.size = 15) := hid (by rw [hC]; rfl)
     have HCO : Hid (C.all (·.oneCell') = true) := hid (by rw [hC]; exact act_one _ _ _ _)
     have HDO : Hid (∀ W (Y : List Nat), Wj w1 W bw p gs v Y → Calls Tryd.prog 11 #[.pointer (some ⟨bw, 0, none⟩), .agg C] W (WC w1 W bw p gs (doesJ v XS[k].x).1 Y (doesJ v XS[k].x).2)) := hid fun W Y hW => by
      rw [hC]
      exact does_any13 hW (step_f XS[k].x v.c HOK.out.e) HIV.out.1 _ HOK.out (by have := HCC.out; omega)
     have HK0 : Hid (∀ W g, Row W g 32 C.toList → W.cell? ⟨g, 0, none⟩ = some (.int .i64 XS[k].x.kind) ∧ W.cell? ⟨g, 2, none⟩ = some (.int .i64 XS[k].x.e.opn) ∧ W.rangeAt g 1 XS[k].x.e.cells.toList ∧ W.cell? ⟨g, 10, none⟩ = some (.int .i64 XS[k].x.n)) := hid fun W g hr => by
      rw [hC] at hr
      exact ⟨hr.at_ 0 _ rfl, hr.at_ 2 _ rfl, act_ent hr, hr.at_ 10 _ rfl⟩
     have HXF := hid HOK.out.e
     have HXN := hid HOK.out.n
     rw [← hC] at HFA
     clear hC HRG HOK
     generalize XS[k].x = x at *
     generalize hxb : wr.heap.size = xb at *
     have HXB := hid hxb
     have HXL : Hid (w1.heap.size ≤ xb) := hid (by rw [← hxb]; exact hj.below.size)
     clear hj
     by_cases hfar : 1000 < (x.e.body.size : Int)
     ·
      rw [decide_eq_true hfar] at HFA
      clear hfar HDO
      go_wp2_with (first
      | ((with_reducible show wpList _ _ _ ({ dst := some 31, op := _, type := _, pos := _, after := _, guard := _ } :: _) _ _); refine wpl_load_midw rfl 32 (.tmp 30) rfl g (o + k * 15) rfl C.toList _ HRG2.out Tryd.underlying32 rfl (by rw [Array.length_toList, HCS.out]; exact actSize) ?_)
       | ((with_reducible show wpList _ _ _ ({ dst := none, op := .store _ (.tmp 6) _, type := _, pos := _, after := _, guard := _ } :: _) _ _); refine wpl_store_st rfl (.tmp 6) (.tmp 31) rfl (n := 15) actSize xb (actC ⟨0, en0, 0, 0, 0, 0, []⟩ none 0 0) C rfl rfl (by rw [← HXB.out]; exact Row.new _ _ _) ?_ (hid rfl) HCS HCO; intro w3 hr3 hg3; have b3 : Below wr.heap.size wr w3 := ((Below.refl wr.heap.size wr).alloc (Nat.le_refl _) _).trans (below_grown hg3 (by rw [HXB.out]; exact Nat.le_refl _) (by simp)); have H3 := hid (HJ.out.add b3 (g := xb) (by rw [HXB.out]; exact Nat.le_refl _) hr3.lt); have K3 := hid ((HJ.out.new b3).2.row HR.out (by simp)); have R3 := hid hr3; clear hr3 hg3 b3)
       | ((with_reducible show wpList _ _ _ ({ dst := some 32, op := _, type := _, pos := _, after := _, guard := _ } :: _) _ _); refine wpList_load_row rfl 32 (.tmp 6) rfl xb rfl 32 C (0, 0) _ R3.out.arr Tryd.underlying32 rfl (by rw [HCS.out]; exact actSize) ?_)
       | (go_at_call 9; refine (HFA.out _).mono ?_; rintro e w4 ⟨rfl, hb4⟩; have H4 := hid (H3.out.new hb4).1; have R4 := hid ((H3.out.new hb4).2.row R3.out (by simp)); have K4 := hid ((H3.out.new hb4).2.row K3.out (by simp)); clear hb4))
      go_roundw
      case rel => exact ⟨k + 1, v, E, by omega, by omega, by go_num, hid HIV.out, by have := HCC.out; omega, H4.out.tail, K4.out⟩
      case measure => simp [intOf]; omega
     ·
      rw [decide_eq_false hfar] at HFA
      clear hfar
      have HXK : Hid (xb ≠ kb) := hid (by have := HJ.out.dd.lt kb (by simp); have := HXB.out; omega)
      go_upto_region 12 with (first
       | ((with_reducible show wpList _ _ _ ({ dst := some 31, op := _, type := _, pos := _, after := _, guard := _ } :: _) _ _); refine wpl_load_midw rfl 32 (.tmp 30) rfl g (o + k * 15) rfl C.toList _ HRG2.out Tryd.underlying32 rfl (by rw [Array.length_toList, HCS.out]; exact actSize) ?_)
       | ((with_reducible show wpList _ _ _ ({ dst := none, op := .store _ (.tmp 6) _, type := _, pos := _, after := _, guard := _ } :: _) _ _); refine wpl_store_st rfl (.tmp 6) (.tmp 31) rfl (n := 15) actSize xb (actC ⟨0, en0, 0, 0, 0, 0, []⟩ none 0 0) C rfl rfl (by rw [← HXB.out]; exact Row.new _ _ _) ?_ (hid rfl) HCS HCO; intro w3 hr3 hg3; have b3 : Below wr.heap.size wr w3 := ((Below.refl wr.heap.size wr).alloc (Nat.le_refl _) _).trans (below_grown hg3 (by rw [HXB.out]; exact Nat.le_refl _) (by simp)); have H3 := hid (HJ.out.add b3 (g := xb) (by rw [HXB.out]; exact Nat.le_refl _) hr3.lt); have K3 := hid ((HJ.out.new b3).2.row HR.out (by simp)); have R3 := hid hr3; clear hr3 hg3 b3)
       | ((with_reducible show wpList _ _ _ ({ dst := some 32, op := _, type := _, pos := _, after := _, guard := _ } :: _) _ _); refine wpList_load_row rfl 32 (.tmp 6) rfl xb rfl 32 C (0, 0) _ R3.out.arr Tryd.underlying32 rfl (by rw [HCS.out]; exact actSize) ?_)
       | (go_at_call 9; refine (HFA.out _).mono ?_; rintro e w4 ⟨rfl, hb4⟩; have H4 := hid (H3.out.new hb4).1; have R4 := hid ((H3.out.new hb4).2.row R3.out (by simp)); have K4 := hid ((H3.out.new hb4).2.row K3.out (by simp)); clear hb4))
      have HK4 : Hid (KW w1 w4 bw p gs xb kb v E C) := hid ⟨H4.out, R4.out, K4.out⟩
      clear HFA H3 R3 K3 H4 R4 K4 HRG2 HJ HR HXB hxb hb hb5
      go_cut [7] from 18 to 194 (fun b wx => b = .bool v.j.isSome ∧ KW w1 wx bw p gs xb kb v E C)
      case first =>
       as_aux_lemma =>
        obtain ⟨S, j, c⟩ := v
        cases j with
        | none =>
         have cb1 : w4.cell? ⟨bw, 1, none⟩ = some (.pointer none) := HK4.out.1.2.2.2.at_ 1 _ rfl
         go_wp2_with fail
         go_meet
         case rel => exact ⟨rfl, HK4.out⟩
        | some J =>
         obtain ⟨_, _, jp4, hD4, hr4⟩ := HK4.out.1
         have cb1 : w4.cell? ⟨bw, 1, none⟩ = some (.pointer (some ⟨jp4, 0, none⟩)) := hr4.at_ 1 _ rfl
         clear hD4 hr4
         go_wp2_with fail
         go_meet
         case rel => exact ⟨rfl, HK4.out⟩
      case rest =>
       as_aux_lemma =>
        obtain ⟨rfl, h5⟩ := hcut
        have HK5 := hid h5
        clear h5 HK4
        obtain ⟨G, hG⟩ : ∃ G : Bool, G = true ↔ (v.j.isSome = true ∧ (x.kind = 2 ∧ 0 < x.n ∨ x.kind = 1 ∧ 0 < x.e.opn ∧ E (x.e.opn % 8).toNat ≠ x.e)) := by
         classical
         exact ⟨decide _, decide_eq_true_iff⟩
        have HG := hid hG
        clear hG
        go_upto_region 13 with fail
        go_cut [74] from 18 to 194 (fun b wx => b = .bool G ∧ KW w1 wx bw p gs xb kb v E C)
        case first =>
         as_aux_lemma =>
          generalize v.j.isSome = al at *
          cases al with
          | false =>
           have HGG : Hid (G = false) := hid (by rcases Bool.eq_false_or_eq_true G with h | h; exact absurd (HG.out.1 h).1 (by decide); exact h)
           as_aux_lemma =>
            try simp only [Act.put, U1,U2,U3,U4,U5,U6]
            refine wp_region_held_drew (S := fun W => KW w1 W bw p gs xb kb v E C) (by kernel_rfl) (HK5.out.drew) (fun hH => ?_)
            refine tk_ (i := 0) (v := .bool false) rfl (Or.inl ⟨by kernel_rfl, fun w' _ => by kernel_rfl⟩) hH ?_
            simp only [Act.put, U1, U3, U4, U5, U6]
            refine tk_ (i := 1) (v := .bool false) rfl (Or.inl ⟨by kernel_rfl, fun w' _ => by kernel_rfl⟩) hH ?_
            simp only [Act.put, U1,U2,U3,U4,U5,U6]
            refine tk_ (i := 2) (v := undef) rfl (Or.inr ⟨by kernel_rfl, rfl⟩) hH ?_
            simp only [Act.put, U1,U2,U3,U4,U5,U6]
            refine tk_ (i := 3) (v := undef) rfl (Or.inr ⟨by kernel_rfl, rfl⟩) hH ?_
            simp only [Act.put, U1,U2,U3,U4,U5,U6]
            refine tk_ (i := 4) (v := undef) rfl (Or.inr ⟨by kernel_rfl, rfl⟩) hH ?_
            simp only [Act.put, U1,U2,U3,U4,U5,U6]
            refine tk_ (i := 5) (v := .bool false) rfl (Or.inl ⟨by kernel_rfl, fun w' _ => by kernel_rfl⟩) hH ?_
            simp only [Act.put, U1,U2,U3,U4,U5,U6]
            refine tk_ (i := 6) (v := .bool false) rfl (Or.inl ⟨by kernel_rfl, fun w' _ => by kernel_rfl⟩) hH ?_
            simp only [Act.put, U1,U2,U3,U4,U5,U6]
            refine tk_ (i := 7) (v := undef) rfl (Or.inr ⟨by kernel_rfl, rfl⟩) hH ?_
            simp only [Act.put, U1,U2,U3,U4,U5,U6]
            refine tk_ (i := 8) (v := undef) rfl (Or.inr ⟨by kernel_rfl, rfl⟩) hH ?_
            simp only [Act.put, U1,U2,U3,U4,U5,U6]
            refine tk_ (i := 9) (v := undef) rfl (Or.inr ⟨by kernel_rfl, rfl⟩) hH ?_
            simp only [Act.put, U1,U2,U3,U4,U5,U6]
            refine tk_ (i := 10) (v := .bool false) rfl (Or.inl ⟨by kernel_rfl, fun w' _ => by kernel_rfl⟩) hH ?_
            simp only [Act.put, U1,U2,U3,U4,U5,U6]
            refine tk_ (i := 11) (v := .bool false) rfl (Or.inl ⟨by kernel_rfl, fun w' _ => by kernel_rfl⟩) hH ?_
            simp only [Act.put, U1,U2,U3,U4,U5,U6]
            refine tk_ (i := 12) (v := .bool false) rfl (Or.inl ⟨by kernel_rfl, fun w' _ => by kernel_rfl⟩) hH ?_
            simp only [Act.put, U1,U2,U3,U4,U5,U6]
            refine tk_ (i := 13) (v := .bool false) rfl (Or.inl ⟨by kernel_rfl, fun w' _ => by kernel_rfl⟩) hH ?_
            simp only [Act.put, U1,U2,U3,U4,U5,U6]
            refine tk_ (i := 14) (v := undef) rfl (Or.inr ⟨by kernel_rfl, rfl⟩) hH ?_
            simp only [Act.put, U1,U2,U3,U4,U5,U6]
            refine tk_ (i := 15) (v := undef) rfl (Or.inr ⟨by kernel_rfl, rfl⟩) hH ?_
            simp only [Act.put, U1,U2,U3,U4,U5,U6]
            refine tk_ (i := 16) (v := undef) rfl (Or.inr ⟨by kernel_rfl, rfl⟩) hH ?_
            simp only [Act.put, U1,U2,U3,U4,U5,U6]
            refine tk_ (i := 17) (v := .bool false) rfl (Or.inl ⟨by kernel_rfl, fun w' _ => by kernel_rfl⟩) hH ?_
            simp only [Act.put, U1,U2,U3,U4,U5,U6]
            refine tk_ (i := 18) (v := .bool false) rfl (Or.inl ⟨by kernel_rfl, fun w' _ => by kernel_rfl⟩) hH ?_
            simp only [Act.put, U1,U2,U3,U4,U5,U6]
            refine tk_ (i := 19) (v := undef) rfl (Or.inr ⟨by kernel_rfl, rfl⟩) hH ?_
            simp only [Act.put, U1,U2,U3,U4,U5,U6]
            refine tk_ (i := 20) (v := undef) rfl (Or.inr ⟨by kernel_rfl, rfl⟩) hH ?_
            simp only [Act.put, U1,U2,U3,U4,U5,U6]
            refine tk_ (i := 21) (v := undef) rfl (Or.inr ⟨by kernel_rfl, rfl⟩) hH ?_
            simp only [Act.put, U1,U2,U3,U4,U5,U6]
            refine tk_ (i := 22) (v := undef) rfl (Or.inr ⟨by kernel_rfl, rfl⟩) hH ?_
            simp only [Act.put, U1,U2,U3,U4,U5,U6]
            refine tk_ (i := 23) (v := .bool false) rfl (Or.inl ⟨by kernel_rfl, fun w' _ => by kernel_rfl⟩) hH ?_
            simp only [Act.put, U1,U2,U3,U4,U5,U6]
            refine tk_ (i := 24) (v := .bool false) rfl (Or.inl ⟨by kernel_rfl, fun w' _ => by kernel_rfl⟩) hH ?_
            simp only [Act.put, U1,U2,U3,U4,U5,U6]
            refine tk_ (i := 25) (v := undef) rfl (Or.inr ⟨by kernel_rfl, rfl⟩) hH ?_
            simp only [Act.put, U1,U2,U3,U4,U5,U6]
            refine tk_ (i := 26) (v := undef) rfl (Or.inr ⟨by kernel_rfl, rfl⟩) hH ?_
            simp only [Act.put, U1,U2,U3,U4,U5,U6]
            refine tk_ (i := 27) (v := undef) rfl (Or.inr ⟨by kernel_rfl, rfl⟩) hH ?_
            simp only [Act.put, U1,U2,U3,U4,U5,U6]
            refine tk_ (i := 28) (v := undef) rfl (Or.inr ⟨by kernel_rfl, rfl⟩) hH ?_
            simp only [Act.put, U1,U2,U3,U4,U5,U6]
            refine tk_ (i := 29) (v := undef) rfl (Or.inr ⟨by kernel_rfl, rfl⟩) hH ?_
            simp only [Act.put, U1,U2,U3,U4,U5,U6]
            refine tk_ (i := 30) (v := undef) rfl (Or.inr ⟨by kernel_rfl, rfl⟩) hH ?_
            simp only [Act.put, U1,U2,U3,U4,U5,U6]
            refine tk_ (i := 31) (v := undef) rfl (Or.inr ⟨by kernel_rfl, rfl⟩) hH ?_
            simp only [Act.put, U1,U2,U3,U4,U5,U6]
            refine tk_ (i := 32) (v := undef) rfl (Or.inr ⟨by kernel_rfl, rfl⟩) hH ?_
            simp only [Act.put, U1,U2,U3,U4,U5,U6]
            refine tk_ (i := 33) (v := undef) rfl (Or.inr ⟨by kernel_rfl, rfl⟩) hH ?_
            simp only [Act.put, U1,U2,U3,U4,U5,U6]
            refine tk_ (i := 34) (v := .bool false) rfl (Or.inl ⟨by kernel_rfl, fun w' _ => by kernel_rfl⟩) hH ?_
            simp only [Act.put, U1,U2,U3,U4,U5,U6]
            refine tk_ (i := 35) (v := .bool false) rfl (Or.inl ⟨by kernel_rfl, fun w' _ => by kernel_rfl⟩) hH ?_
            simp only [Act.put, U1,U2,U3,U4,U5,U6]
            refine wpAnyH_done (by kernel_rfl) ?_ _
            try simp only [Act.put, U1,U2,U3,U4,U5,U6]
            go_wp2_with fail
            go_meet
            case rel => exact ⟨congrArg Value.bool HGG.out.symm, hH⟩
          | true =>
           by_cases h2 : x.kind = 2
           ·
            have HC2 : Hid ((x.kind == 2) = true) := hid (by simp [h2])
            have HC1 : Hid ((x.kind == 1) = false) := hid (by simp [h2])
            by_cases hn : 0 < x.n
            ·
             have HCN := hid (decide_eq_true hn)
             have HGG : Hid (G = true) := hid (HG.out.2 ⟨rfl, .inl ⟨h2, hn⟩⟩)
             clear h2 hn
             as_aux_lemma =>
              try simp only [Act.put, U1,U2,U3,U4,U5,U6]
              refine wp_region_held_drew (S := fun W => KW w1 W bw p gs xb kb v E C) (by kernel_rfl) (HK5.out.drew) (fun hH => ?_)
              refine tk_ (i := 0) (v := .bool true) rfl (Or.inl ⟨by kernel_rfl, fun w' _ => by kernel_rfl⟩) hH ?_
              simp only [Act.put, U1, U3, U4, U5, U6]
              refine tk_ (i := 1) (v := .bool true) rfl (Or.inl ⟨by kernel_rfl, fun w' _ => by kernel_rfl⟩) hH ?_
              simp only [Act.put, U1,U2,U3,U4,U5,U6]
              refine tk_ (i := 2) (v := .pointer (some ⟨xb, 0, none⟩)) rfl (Or.inl ⟨by kernel_rfl, fun w' hw' => by clear hw'; go_simp⟩) hH ?_
              simp only [Act.put, U1,U2,U3,U4,U5,U6]
              refine tk_ (i := 3) (v := .int .i64 x.kind) rfl (Or.inl ⟨by kernel_rfl, fun w' hw' => by have h := (HK0.out _ _ hw'.2.1).1; go_simp⟩) hH ?_
              simp only [Act.put, U1,U2,U3,U4,U5,U6]
              refine tk_ (i := 4) (v := .bool true) rfl (Or.inl ⟨by kernel_rfl, fun w' hw' => by have h := HC2.out; go_simp⟩) hH ?_
              simp only [Act.put, U1,U2,U3,U4,U5,U6]
              refine tk_ (i := 5) (v := .bool true) rfl (Or.inl ⟨by kernel_rfl, fun w' _ => by kernel_rfl⟩) hH ?_
              simp only [Act.put, U1,U2,U3,U4,U5,U6]
              refine tk_ (i := 6) (v := .bool true) rfl (Or.inl ⟨by kernel_rfl, fun w' _ => by kernel_rfl⟩) hH ?_
              simp only [Act.put, U1,U2,U3,U4,U5,U6]
              refine tk_ (i := 7) (v := .pointer (some ⟨xb, 10, none⟩)) rfl (Or.inl ⟨by kernel_rfl, fun w' hw' => by clear hw'; go_simp⟩) hH ?_
              simp only [Act.put, U1,U2,U3,U4,U5,U6]
              refine tk_ (i := 8) (v := .int .i64 x.n) rfl (Or.inl ⟨by kernel_rfl, fun w' hw' => by have h := (HK0.out _ _ hw'.2.1).2.2.2; go_simp⟩) hH ?_
              simp only [Act.put, U1,U2,U3,U4,U5,U6]
              refine tk_ (i := 9) (v := .bool true) rfl (Or.inl ⟨by kernel_rfl, fun w' hw' => by have h := HCN.out; go_simp⟩) hH ?_
              simp only [Act.put, U1,U2,U3,U4,U5,U6]
              refine tk_ (i := 10) (v := .bool true) rfl (Or.inl ⟨by kernel_rfl, fun w' _ => by kernel_rfl⟩) hH ?_
              simp only [Act.put, U1,U2,U3,U4,U5,U6]
              refine tk_ (i := 11) (v := .bool true) rfl (Or.inl ⟨by kernel_rfl, fun w' _ => by kernel_rfl⟩) hH ?_
              simp only [Act.put, U1,U2,U3,U4,U5,U6]
              refine tk_ (i := 12) (v := undef) rfl (Or.inr ⟨by kernel_rfl, rfl⟩) hH ?_
              simp only [Act.put, U1,U2,U3,U4,U5,U6]
              refine tk_ (i := 13) (v := undef) rfl (Or.inr ⟨by kernel_rfl, rfl⟩) hH ?_
              simp only [Act.put, U1,U2,U3,U4,U5,U6]
              refine tk_ (i := 14) (v := undef) rfl (Or.inr ⟨by kernel_rfl, rfl⟩) hH ?_
              simp only [Act.put, U1,U2,U3,U4,U5,U6]
              refine tk_ (i := 15) (v := undef) rfl (Or.inr ⟨by kernel_rfl, rfl⟩) hH ?_
              simp only [Act.put, U1,U2,U3,U4,U5,U6]
              refine tk_ (i := 16) (v := undef) rfl (Or.inr ⟨by kernel_rfl, rfl⟩) hH ?_
              simp only [Act.put, U1,U2,U3,U4,U5,U6]
              refine tk_ (i := 17) (v := undef) rfl (Or.inr ⟨by kernel_rfl, rfl⟩) hH ?_
              simp only [Act.put, U1,U2,U3,U4,U5,U6]
              refine tk_ (i := 18) (v := undef) rfl (Or.inr ⟨by kernel_rfl, rfl⟩) hH ?_
              simp only [Act.put, U1,U2,U3,U4,U5,U6]
              refine tk_ (i := 19) (v := undef) rfl (Or.inr ⟨by kernel_rfl, rfl⟩) hH ?_
              simp only [Act.put, U1,U2,U3,U4,U5,U6]
              refine tk_ (i := 20) (v := undef) rfl (Or.inr ⟨by kernel_rfl, rfl⟩) hH ?_
              simp only [Act.put, U1,U2,U3,U4,U5,U6]
              refine tk_ (i := 21) (v := undef) rfl (Or.inr ⟨by kernel_rfl, rfl⟩) hH ?_
              simp only [Act.put, U1,U2,U3,U4,U5,U6]
              refine tk_ (i := 22) (v := undef) rfl (Or.inr ⟨by kernel_rfl, rfl⟩) hH ?_
              simp only [Act.put, U1,U2,U3,U4,U5,U6]
              refine tk_ (i := 23) (v := undef) rfl (Or.inr ⟨by kernel_rfl, rfl⟩) hH ?_
              simp only [Act.put, U1,U2,U3,U4,U5,U6]
              refine tk_ (i := 24) (v := undef) rfl (Or.inr ⟨by kernel_rfl, rfl⟩) hH ?_
              simp only [Act.put, U1,U2,U3,U4,U5,U6]
              refine tk_ (i := 25) (v := undef) rfl (Or.inr ⟨by kernel_rfl, rfl⟩) hH ?_
              simp only [Act.put, U1,U2,U3,U4,U5,U6]
              refine tk_ (i := 26) (v := undef) rfl (Or.inr ⟨by kernel_rfl, rfl⟩) hH ?_
              simp only [Act.put, U1,U2,U3,U4,U5,U6]
              refine tk_ (i := 27) (v := undef) rfl (Or.inr ⟨by kernel_rfl, rfl⟩) hH ?_
              simp only [Act.put, U1,U2,U3,U4,U5,U6]
              refine tk_ (i := 28) (v := undef) rfl (Or.inr ⟨by kernel_rfl, rfl⟩) hH ?_
              simp only [Act.put, U1,U2,U3,U4,U5,U6]
              refine tk_ (i := 29) (v := undef) rfl (Or.inr ⟨by kernel_rfl, rfl⟩) hH ?_
              simp only [Act.put, U1,U2,U3,U4,U5,U6]
              refine tk_ (i := 30) (v := undef) rfl (Or.inr ⟨by kernel_rfl, rfl⟩) hH ?_
              simp only [Act.put, U1,U2,U3,U4,U5,U6]
              refine tk_ (i := 31) (v := undef) rfl (Or.inr ⟨by kernel_rfl, rfl⟩) hH ?_
              simp only [Act.put, U1,U2,U3,U4,U5,U6]
              refine tk_ (i := 32) (v := undef) rfl (Or.inr ⟨by kernel_rfl, rfl⟩) hH ?_
              simp only [Act.put, U1,U2,U3,U4,U5,U6]
              refine tk_ (i := 33) (v := undef) rfl (Or.inr ⟨by kernel_rfl, rfl⟩) hH ?_
              simp only [Act.put, U1,U2,U3,U4,U5,U6]
              refine tk_ (i := 34) (v := undef) rfl (Or.inr ⟨by kernel_rfl, rfl⟩) hH ?_
              simp only [Act.put, U1,U2,U3,U4,U5,U6]
              refine tk_ (i := 35) (v := .bool true) rfl (Or.inl ⟨by kernel_rfl, fun w' _ => by kernel_rfl⟩) hH ?_
              simp only [Act.put, U1,U2,U3,U4,U5,U6]
              refine wpAnyH_done (by kernel_rfl) ?_ _
              try simp only [Act.put, U1,U2,U3,U4,U5,U6]
              go_wp2_with fail
              go_meet
              case rel => exact ⟨congrArg Value.bool HGG.out.symm, hH⟩
            ·
             have HCN := hid (decide_eq_false hn)
             have HGG : Hid (G = false) := hid (by rcases Bool.eq_false_or_eq_true G with h | h; obtain ⟨_, q | q⟩ := HG.out.1 h; exact absurd q.2 hn; exact absurd (h2.symm.trans q.1) (by decide); exact h)
             clear h2 hn
             as_aux_lemma =>
              try simp only [Act.put, U1,U2,U3,U4,U5,U6]
              refine wp_region_held_drew (S := fun W => KW w1 W bw p gs xb kb v E C) (by kernel_rfl) (HK5.out.drew) (fun hH => ?_)
              refine tk_ (i := 0) (v := .bool true) rfl (Or.inl ⟨by kernel_rfl, fun w' _ => by kernel_rfl⟩) hH ?_
              simp only [Act.put, U1, U3, U4, U5, U6]
              refine tk_ (i := 1) (v := .bool true) rfl (Or.inl ⟨by kernel_rfl, fun w' _ => by kernel_rfl⟩) hH ?_
              simp only [Act.put, U1,U2,U3,U4,U5,U6]
              refine tk_ (i := 2) (v := .pointer (some ⟨xb, 0, none⟩)) rfl (Or.inl ⟨by kernel_rfl, fun w' hw' => by clear hw'; go_simp⟩) hH ?_
              simp only [Act.put, U1,U2,U3,U4,U5,U6]
              refine tk_ (i := 3) (v := .int .i64 x.kind) rfl (Or.inl ⟨by kernel_rfl, fun w' hw' => by have h := (HK0.out _ _ hw'.2.1).1; go_simp⟩) hH ?_
              simp only [Act.put, U1,U2,U3,U4,U5,U6]
              refine tk_ (i := 4) (v := .bool true) rfl (Or.inl ⟨by kernel_rfl, fun w' hw' => by have h := HC2.out; go_simp⟩) hH ?_
              simp only [Act.put, U1,U2,U3,U4,U5,U6]
              refine tk_ (i := 5) (v := .bool true) rfl (Or.inl ⟨by kernel_rfl, fun w' _ => by kernel_rfl⟩) hH ?_
              simp only [Act.put, U1,U2,U3,U4,U5,U6]
              refine tk_ (i := 6) (v := .bool true) rfl (Or.inl ⟨by kernel_rfl, fun w' _ => by kernel_rfl⟩) hH ?_
              simp only [Act.put, U1,U2,U3,U4,U5,U6]
              refine tk_ (i := 7) (v := .pointer (some ⟨xb, 10, none⟩)) rfl (Or.inl ⟨by kernel_rfl, fun w' hw' => by clear hw'; go_simp⟩) hH ?_
              simp only [Act.put, U1,U2,U3,U4,U5,U6]
              refine tk_ (i := 8) (v := .int .i64 x.n) rfl (Or.inl ⟨by kernel_rfl, fun w' hw' => by have h := (HK0.out _ _ hw'.2.1).2.2.2; go_simp⟩) hH ?_
              simp only [Act.put, U1,U2,U3,U4,U5,U6]
              refine tk_ (i := 9) (v := .bool false) rfl (Or.inl ⟨by kernel_rfl, fun w' hw' => by have h := HCN.out; go_simp⟩) hH ?_
              simp only [Act.put, U1,U2,U3,U4,U5,U6]
              refine tk_ (i := 10) (v := .bool false) rfl (Or.inl ⟨by kernel_rfl, fun w' _ => by kernel_rfl⟩) hH ?_
              simp only [Act.put, U1,U2,U3,U4,U5,U6]
              refine tk_ (i := 11) (v := .bool false) rfl (Or.inl ⟨by kernel_rfl, fun w' _ => by kernel_rfl⟩) hH ?_
              simp only [Act.put, U1,U2,U3,U4,U5,U6]
              refine tk_ (i := 12) (v := .bool true) rfl (Or.inl ⟨by kernel_rfl, fun w' _ => by kernel_rfl⟩) hH ?_
              simp only [Act.put, U1,U2,U3,U4,U5,U6]
              refine tk_ (i := 13) (v := .bool true) rfl (Or.inl ⟨by kernel_rfl, fun w' _ => by kernel_rfl⟩) hH ?_
              simp only [Act.put, U1,U2,U3,U4,U5,U6]
              refine tk_ (i := 14) (v := .pointer (some ⟨xb, 0, none⟩)) rfl (Or.inl ⟨by kernel_rfl, fun w' hw' => by clear hw'; go_simp⟩) hH ?_
              simp only [Act.put, U1,U2,U3,U4,U5,U6]
              refine tk_ (i := 15) (v := .int .i64 x.kind) rfl (Or.inl ⟨by kernel_rfl, fun w' hw' => by have h := (HK0.out _ _ hw'.2.1).1; go_simp⟩) hH ?_
              simp only [Act.put, U1,U2,U3,U4,U5,U6]
              refine tk_ (i := 16) (v := .bool false) rfl (Or.inl ⟨by kernel_rfl, fun w' hw' => by have h := HC1.out; go_simp⟩) hH ?_
              simp only [Act.put, U1,U2,U3,U4,U5,U6]
              refine tk_ (i := 17) (v := .bool false) rfl (Or.inl ⟨by kernel_rfl, fun w' _ => by kernel_rfl⟩) hH ?_
              simp only [Act.put, U1,U2,U3,U4,U5,U6]
              refine tk_ (i := 18) (v := .bool false) rfl (Or.inl ⟨by kernel_rfl, fun w' _ => by kernel_rfl⟩) hH ?_
              simp only [Act.put, U1,U2,U3,U4,U5,U6]
              refine tk_ (i := 19) (v := undef) rfl (Or.inr ⟨by kernel_rfl, rfl⟩) hH ?_
              simp only [Act.put, U1,U2,U3,U4,U5,U6]
              refine tk_ (i := 20) (v := undef) rfl (Or.inr ⟨by kernel_rfl, rfl⟩) hH ?_
              simp only [Act.put, U1,U2,U3,U4,U5,U6]
              refine tk_ (i := 21) (v := undef) rfl (Or.inr ⟨by kernel_rfl, rfl⟩) hH ?_
              simp only [Act.put, U1,U2,U3,U4,U5,U6]
              refine tk_ (i := 22) (v := undef) rfl (Or.inr ⟨by kernel_rfl, rfl⟩) hH ?_
              simp only [Act.put, U1,U2,U3,U4,U5,U6]
              refine tk_ (i := 23) (v := .bool false) rfl (Or.inl ⟨by kernel_rfl, fun w' _ => by kernel_rfl⟩) hH ?_
              simp only [Act.put, U1,U2,U3,U4,U5,U6]
              refine tk_ (i := 24) (v := .bool false) rfl (Or.inl ⟨by kernel_rfl, fun w' _ => by kernel_rfl⟩) hH ?_
              simp only [Act.put, U1,U2,U3,U4,U5,U6]
              refine tk_ (i := 25) (v := undef) rfl (Or.inr ⟨by kernel_rfl, rfl⟩) hH ?_
              simp only [Act.put, U1,U2,U3,U4,U5,U6]
              refine tk_ (i := 26) (v := undef) rfl (Or.inr ⟨by kernel_rfl, rfl⟩) hH ?_
              simp only [Act.put, U1,U2,U3,U4,U5,U6]
              refine tk_ (i := 27) (v := undef) rfl (Or.inr ⟨by kernel_rfl, rfl⟩) hH ?_
              simp only [Act.put, U1,U2,U3,U4,U5,U6]
              refine tk_ (i := 28) (v := undef) rfl (Or.inr ⟨by kernel_rfl, rfl⟩) hH ?_
              simp only [Act.put, U1,U2,U3,U4,U5,U6]
              refine tk_ (i := 29) (v := undef) rfl (Or.inr ⟨by kernel_rfl, rfl⟩) hH ?_
              simp only [Act.put, U1,U2,U3,U4,U5,U6]
              refine tk_ (i := 30) (v := undef) rfl (Or.inr ⟨by kernel_rfl, rfl⟩) hH ?_
              simp only [Act.put, U1,U2,U3,U4,U5,U6]
              refine tk_ (i := 31) (v := undef) rfl (Or.inr ⟨by kernel_rfl, rfl⟩) hH ?_
              simp only [Act.put, U1,U2,U3,U4,U5,U6]
              refine tk_ (i := 32) (v := undef) rfl (Or.inr ⟨by kernel_rfl, rfl⟩) hH ?_
              simp only [Act.put, U1,U2,U3,U4,U5,U6]
              refine tk_ (i := 33) (v := undef) rfl (Or.inr ⟨by kernel_rfl, rfl⟩) hH ?_
              simp only [Act.put, U1,U2,U3,U4,U5,U6]
              refine tk_ (i := 34) (v := .bool false) rfl (Or.inl ⟨by kernel_rfl, fun w' _ => by kernel_rfl⟩) hH ?_
              simp only [Act.put, U1,U2,U3,U4,U5,U6]
              refine tk_ (i := 35) (v := .bool false) rfl (Or.inl ⟨by kernel_rfl, fun w' _ => by kernel_rfl⟩) hH ?_
              simp only [Act.put, U1,U2,U3,U4,U5,U6]
              refine wpAnyH_done (by kernel_rfl) ?_ _
              try simp only [Act.put, U1,U2,U3,U4,U5,U6]
              go_wp2_with fail
              go_meet
              case rel => exact ⟨congrArg Value.bool HGG.out.symm, hH⟩
           ·
            have HC2 : Hid ((x.kind == 2) = false) := hid (by simpa using h2)
            by_cases h1 : x.kind = 1
            ·
             have HC1 : Hid ((x.kind == 1) = true) := hid (by simp [h1])
             by_cases hn : 0 < x.e.opn
             ·
              have HCO := hid (decide_eq_true hn)
              obtain ⟨q, hq⟩ : ∃ q, q = (x.e.opn % 8).toNat := ⟨_, rfl⟩
              have hq8 : q < 8 := by omega
              have HQB := hid hq8
              have HQ8 : Hid (x.e.opn.tmod 8 = (q : Int)) := hid (by rw [Int.tmod_eq_emod_of_nonneg (by omega)]; omega)
              have HQL := hid (show (q : Int) < 8 by omega)
              by_cases he : E q = x.e
              ·
               have HGG : Hid (G = false) := hid (by rcases Bool.eq_false_or_eq_true G with h | h; obtain ⟨_, q | q⟩ := HG.out.1 h; exact absurd q.1 h2; rw [← hq] at q; exact absurd he q.2.2; exact h)
               have HEQ : Hid (true = true ↔ E q = x.e) := hid ⟨fun _ => he, fun _ => rfl⟩
               clear h2 h1 hn hq hq8 he
               as_aux_lemma =>
                try simp only [Act.put, U1,U2,U3,U4,U5,U6]
                refine wp_region_held_drew (S := fun W => KW w1 W bw p gs xb kb v E C) (by kernel_rfl) (HK5.out.drew) (fun hH => ?_)
                refine tk_ (i := 0) (v := .bool true) rfl (Or.inl ⟨by kernel_rfl, fun w' _ => by kernel_rfl⟩) hH ?_
                simp only [Act.put, U1, U3, U4, U5, U6]
                refine tk_ (i := 1) (v := .bool true) rfl (Or.inl ⟨by kernel_rfl, fun w' _ => by kernel_rfl⟩) hH ?_
                simp only [Act.put, U1,U2,U3,U4,U5,U6]
                refine tk_ (i := 2) (v := .pointer (some ⟨xb, 0, none⟩)) rfl (Or.inl ⟨by kernel_rfl, fun w' hw' => by clear hw'; go_simp⟩) hH ?_
                simp only [Act.put, U1,U2,U3,U4,U5,U6]
                refine tk_ (i := 3) (v := .int .i64 x.kind) rfl (Or.inl ⟨by kernel_rfl, fun w' hw' => by have h := (HK0.out _ _ hw'.2.1).1; go_simp⟩) hH ?_
                simp only [Act.put, U1,U2,U3,U4,U5,U6]
                refine tk_ (i := 4) (v := .bool false) rfl (Or.inl ⟨by kernel_rfl, fun w' hw' => by have h := HC2.out; go_simp⟩) hH ?_
                simp only [Act.put, U1,U2,U3,U4,U5,U6]
                refine tk_ (i := 5) (v := .bool false) rfl (Or.inl ⟨by kernel_rfl, fun w' _ => by kernel_rfl⟩) hH ?_
                simp only [Act.put, U1,U2,U3,U4,U5,U6]
                refine tk_ (i := 6) (v := .bool false) rfl (Or.inl ⟨by kernel_rfl, fun w' _ => by kernel_rfl⟩) hH ?_
                simp only [Act.put, U1,U2,U3,U4,U5,U6]
                refine tk_ (i := 7) (v := undef) rfl (Or.inr ⟨by kernel_rfl, rfl⟩) hH ?_
                simp only [Act.put, U1,U2,U3,U4,U5,U6]
                refine tk_ (i := 8) (v := undef) rfl (Or.inr ⟨by kernel_rfl, rfl⟩) hH ?_
                simp only [Act.put, U1,U2,U3,U4,U5,U6]
                refine tk_ (i := 9) (v := undef) rfl (Or.inr ⟨by kernel_rfl, rfl⟩) hH ?_
                simp only [Act.put, U1,U2,U3,U4,U5,U6]
                refine tk_ (i := 10) (v := .bool false) rfl (Or.inl ⟨by kernel_rfl, fun w' _ => by kernel_rfl⟩) hH ?_
                simp only [Act.put, U1,U2,U3,U4,U5,U6]
                refine tk_ (i := 11) (v := .bool false) rfl (Or.inl ⟨by kernel_rfl, fun w' _ => by kernel_rfl⟩) hH ?_
                simp only [Act.put, U1,U2,U3,U4,U5,U6]
                refine tk_ (i := 12) (v := .bool true) rfl (Or.inl ⟨by kernel_rfl, fun w' _ => by kernel_rfl⟩) hH ?_
                simp only [Act.put, U1,U2,U3,U4,U5,U6]
                refine tk_ (i := 13) (v := .bool true) rfl (Or.inl ⟨by kernel_rfl, fun w' _ => by kernel_rfl⟩) hH ?_
                simp only [Act.put, U1,U2,U3,U4,U5,U6]
                refine tk_ (i := 14) (v := .pointer (some ⟨xb, 0, none⟩)) rfl (Or.inl ⟨by kernel_rfl, fun w' hw' => by clear hw'; go_simp⟩) hH ?_
                simp only [Act.put, U1,U2,U3,U4,U5,U6]
                refine tk_ (i := 15) (v := .int .i64 x.kind) rfl (Or.inl ⟨by kernel_rfl, fun w' hw' => by have h := (HK0.out _ _ hw'.2.1).1; go_simp⟩) hH ?_
                simp only [Act.put, U1,U2,U3,U4,U5,U6]
                refine tk_ (i := 16) (v := .bool true) rfl (Or.inl ⟨by kernel_rfl, fun w' hw' => by have h := HC1.out; go_simp⟩) hH ?_
                simp only [Act.put, U1,U2,U3,U4,U5,U6]
                refine tk_ (i := 17) (v := .bool true) rfl (Or.inl ⟨by kernel_rfl, fun w' _ => by kernel_rfl⟩) hH ?_
                simp only [Act.put, U1,U2,U3,U4,U5,U6]
                refine tk_ (i := 18) (v := .bool true) rfl (Or.inl ⟨by kernel_rfl, fun w' _ => by kernel_rfl⟩) hH ?_
                simp only [Act.put, U1,U2,U3,U4,U5,U6]
                refine tk_ (i := 19) (v := .pointer (some ⟨xb, 1, none⟩)) rfl (Or.inl ⟨by kernel_rfl, fun w' hw' => by clear hw'; go_simp⟩) hH ?_
                simp only [Act.put, U1,U2,U3,U4,U5,U6]
                refine tk_ (i := 20) (v := .pointer (some ⟨xb, 2, none⟩)) rfl (Or.inl ⟨by kernel_rfl, fun w' hw' => by clear hw'; go_simp⟩) hH ?_
                simp only [Act.put, U1,U2,U3,U4,U5,U6]
                refine tk_ (i := 21) (v := .int .i64 x.e.opn) rfl (Or.inl ⟨by kernel_rfl, fun w' hw' => by have h := (HK0.out _ _ hw'.2.1).2.1; go_simp⟩) hH ?_
                simp only [Act.put, U1,U2,U3,U4,U5,U6]
                refine tk_ (i := 22) (v := .bool true) rfl (Or.inl ⟨by kernel_rfl, fun w' hw' => by have h := HCO.out; go_simp⟩) hH ?_
                simp only [Act.put, U1,U2,U3,U4,U5,U6]
                refine tk_ (i := 23) (v := .bool true) rfl (Or.inl ⟨by kernel_rfl, fun w' _ => by kernel_rfl⟩) hH ?_
                simp only [Act.put, U1,U2,U3,U4,U5,U6]
                refine tk_ (i := 24) (v := .bool true) rfl (Or.inl ⟨by kernel_rfl, fun w' _ => by kernel_rfl⟩) hH ?_
                simp only [Act.put, U1,U2,U3,U4,U5,U6]
                refine tk_ (i := 25) (v := .pointer (some ⟨xb, 1, none⟩)) rfl (Or.inl ⟨by kernel_rfl, fun w' hw' => by clear hw'; go_simp⟩) hH ?_
                simp only [Act.put, U1,U2,U3,U4,U5,U6]
                refine tk_ (i := 26) (v := .pointer (some ⟨xb, 2, none⟩)) rfl (Or.inl ⟨by kernel_rfl, fun w' hw' => by clear hw'; go_simp⟩) hH ?_
                simp only [Act.put, U1,U2,U3,U4,U5,U6]
                refine tk_ (i := 27) (v := .int .i64 x.e.opn) rfl (Or.inl ⟨by kernel_rfl, fun w' hw' => by have h := (HK0.out _ _ hw'.2.1).2.1; go_simp⟩) hH ?_
                simp only [Act.put, U1,U2,U3,U4,U5,U6]
                refine tk_ (i := 28) (v := .int .i64 (q : Nat)) rfl (Or.inl ⟨by kernel_rfl, fun w' hw' => by have h := HQ8.out; go_simp⟩) hH ?_
                simp only [Act.put, U1,U2,U3,U4,U5,U6]
                refine tk_ (i := 29) (v := .pointer (some ⟨kb, q * 9, none⟩)) rfl (Or.inl ⟨by kernel_rfl, fun w' hw' => by have h := HQL.out; go_simp⟩) hH ?_
                simp only [Act.put, U1,U2,U3,U4,U5,U6]
                refine tk_ (i := 30) (v := .agg (E q).cells) rfl ?_ hH ?_
                ·
                 refine yieldsIf_load_mid ?_ 28 (.tmp 68) ?_ kb (q * 9) ?_ (E q).cells.toList _ (fun W hW => kept_range hW.2.2 HQB.out) Tryd.underlying28 rfl (by exact esize)
                 all_goals kernel_rfl
                simp only [Act.put, U1,U2,U3,U4,U5,U6]
                refine tk_ (i := 31) (v := .pointer (some ⟨xb, 1, none⟩)) rfl (Or.inl ⟨by kernel_rfl, fun w' hw' => by clear hw'; go_simp⟩) hH ?_
                simp only [Act.put, U1,U2,U3,U4,U5,U6]
                refine tk_ (i := 32) (v := .agg x.e.cells) rfl ?_ hH ?_
                ·
                 refine yieldsIf_load_mid ?_ 28 (.tmp 70) ?_ xb 1 ?_ x.e.cells.toList _ (fun W hW => (HK0.out _ _ hW.2.1).2.2.1) Tryd.underlying28 rfl (by exact esize)
                 all_goals kernel_rfl
                simp only [Act.put, U1,U2,U3,U4,U5,U6]
                refine tk_ (i := 33) (v := .bool (!true)) rfl (yields_nee (by kernel_rfl) (E q) x.e true HEQ (.tmp 69) (.tmp 71) _ rfl (by kernel_rfl) (by kernel_rfl)) hH ?_
                simp only [Act.put, U1,U2,U3,U4,U5,U6]
                refine tk_ (i := 34) (v := .bool false) rfl (Or.inl ⟨by kernel_rfl, fun w' _ => by kernel_rfl⟩) hH ?_
                simp only [Act.put, U1,U2,U3,U4,U5,U6]
                refine tk_ (i := 35) (v := .bool false) rfl (Or.inl ⟨by kernel_rfl, fun w' _ => by kernel_rfl⟩) hH ?_
                simp only [Act.put, U1,U2,U3,U4,U5,U6]
                refine wpAnyH_done (by kernel_rfl) ?_ _
                try simp only [Act.put, U1,U2,U3,U4,U5,U6]
                go_wp2_with fail
                go_meet
                case rel => exact ⟨congrArg Value.bool HGG.out.symm, hH⟩
              ·
               have HGG : Hid (G = true) := hid (HG.out.2 ⟨rfl, .inr ⟨h1, hn, by rw [← hq]; exact he⟩⟩)
               have HEQ : Hid (false = true ↔ E q = x.e) := hid ⟨fun h => absurd h (by decide), fun h => absurd h he⟩
               clear h2 h1 hn hq hq8 he
               as_aux_lemma =>
                try simp only [Act.put, U1,U2,U3,U4,U5,U6]
                refine wp_region_held_drew (S := fun W => KW w1 W bw p gs xb kb v E C) (by kernel_rfl) (HK5.out.drew) (fun hH => ?_)
                refine tk_ (i := 0) (v := .bool true) rfl (Or.inl ⟨by kernel_rfl, fun w' _ => by kernel_rfl⟩) hH ?_
                simp only [Act.put, U1, U3, U4, U5, U6]
                refine tk_ (i := 1) (v := .bool true) rfl (Or.inl ⟨by kernel_rfl, fun w' _ => by kernel_rfl⟩) hH ?_
                simp only [Act.put, U1,U2,U3,U4,U5,U6]
                refine tk_ (i := 2) (v := .pointer (some ⟨xb, 0, none⟩)) rfl (Or.inl ⟨by kernel_rfl, fun w' hw' => by clear hw'; go_simp⟩) hH ?_
                simp only [Act.put, U1,U2,U3,U4,U5,U6]
                refine tk_ (i := 3) (v := .int .i64 x.kind) rfl (Or.inl ⟨by kernel_rfl, fun w' hw' => by have h := (HK0.out _ _ hw'.2.1).1; go_simp⟩) hH ?_
                simp only [Act.put, U1,U2,U3,U4,U5,U6]
                refine tk_ (i := 4) (v := .bool false) rfl (Or.inl ⟨by kernel_rfl, fun w' hw' => by have h := HC2.out; go_simp⟩) hH ?_
                simp only [Act.put, U1,U2,U3,U4,U5,U6]
                refine tk_ (i := 5) (v := .bool false) rfl (Or.inl ⟨by kernel_rfl, fun w' _ => by kernel_rfl⟩) hH ?_
                simp only [Act.put, U1,U2,U3,U4,U5,U6]
                refine tk_ (i := 6) (v := .bool false) rfl (Or.inl ⟨by kernel_rfl, fun w' _ => by kernel_rfl⟩) hH ?_
                simp only [Act.put, U1,U2,U3,U4,U5,U6]
                refine tk_ (i := 7) (v := undef) rfl (Or.inr ⟨by kernel_rfl, rfl⟩) hH ?_
                simp only [Act.put, U1,U2,U3,U4,U5,U6]
                refine tk_ (i := 8) (v := undef) rfl (Or.inr ⟨by kernel_rfl, rfl⟩) hH ?_
                simp only [Act.put, U1,U2,U3,U4,U5,U6]
                refine tk_ (i := 9) (v := undef) rfl (Or.inr ⟨by kernel_rfl, rfl⟩) hH ?_
                simp only [Act.put, U1,U2,U3,U4,U5,U6]
                refine tk_ (i := 10) (v := .bool false) rfl (Or.inl ⟨by kernel_rfl, fun w' _ => by kernel_rfl⟩) hH ?_
                simp only [Act.put, U1,U2,U3,U4,U5,U6]
                refine tk_ (i := 11) (v := .bool false) rfl (Or.inl ⟨by kernel_rfl, fun w' _ => by kernel_rfl⟩) hH ?_
                simp only [Act.put, U1,U2,U3,U4,U5,U6]
                refine tk_ (i := 12) (v := .bool true) rfl (Or.inl ⟨by kernel_rfl, fun w' _ => by kernel_rfl⟩) hH ?_
                simp only [Act.put, U1,U2,U3,U4,U5,U6]
                refine tk_ (i := 13) (v := .bool true) rfl (Or.inl ⟨by kernel_rfl, fun w' _ => by kernel_rfl⟩) hH ?_
                simp only [Act.put, U1,U2,U3,U4,U5,U6]
                refine tk_ (i := 14) (v := .pointer (some ⟨xb, 0, none⟩)) rfl (Or.inl ⟨by kernel_rfl, fun w' hw' => by clear hw'; go_simp⟩) hH ?_
                simp only [Act.put, U1,U2,U3,U4,U5,U6]
                refine tk_ (i := 15) (v := .int .i64 x.kind) rfl (Or.inl ⟨by kernel_rfl, fun w' hw' => by have h := (HK0.out _ _ hw'.2.1).1; go_simp⟩) hH ?_
                simp only [Act.put, U1,U2,U3,U4,U5,U6]
                refine tk_ (i := 16) (v := .bool true) rfl (Or.inl ⟨by kernel_rfl, fun w' hw' => by have h := HC1.out; go_simp⟩) hH ?_
                simp only [Act.put, U1,U2,U3,U4,U5,U6]
                refine tk_ (i := 17) (v := .bool true) rfl (Or.inl ⟨by kernel_rfl, fun w' _ => by kernel_rfl⟩) hH ?_
                simp only [Act.put, U1,U2,U3,U4,U5,U6]
                refine tk_ (i := 18) (v := .bool true) rfl (Or.inl ⟨by kernel_rfl, fun w' _ => by kernel_rfl⟩) hH ?_
                simp only [Act.put, U1,U2,U3,U4,U5,U6]
                refine tk_ (i := 19) (v := .pointer (some ⟨xb, 1, none⟩)) rfl (Or.inl ⟨by kernel_rfl, fun w' hw' => by clear hw'; go_simp⟩) hH ?_
                simp only [Act.put, U1,U2,U3,U4,U5,U6]
                refine tk_ (i := 20) (v := .pointer (some ⟨xb, 2, none⟩)) rfl (Or.inl ⟨by kernel_rfl, fun w' hw' => by clear hw'; go_simp⟩) hH ?_
                simp only [Act.put, U1,U2,U3,U4,U5,U6]
                refine tk_ (i := 21) (v := .int .i64 x.e.opn) rfl (Or.inl ⟨by kernel_rfl, fun w' hw' => by have h := (HK0.out _ _ hw'.2.1).2.1; go_simp⟩) hH ?_
                simp only [Act.put, U1,U2,U3,U4,U5,U6]
                refine tk_ (i := 22) (v := .bool true) rfl (Or.inl ⟨by kernel_rfl, fun w' hw' => by have h := HCO.out; go_simp⟩) hH ?_
                simp only [Act.put, U1,U2,U3,U4,U5,U6]
                refine tk_ (i := 23) (v := .bool true) rfl (Or.inl ⟨by kernel_rfl, fun w' _ => by kernel_rfl⟩) hH ?_
                simp only [Act.put, U1,U2,U3,U4,U5,U6]
                refine tk_ (i := 24) (v := .bool true) rfl (Or.inl ⟨by kernel_rfl, fun w' _ => by kernel_rfl⟩) hH ?_
                simp only [Act.put, U1,U2,U3,U4,U5,U6]
                refine tk_ (i := 25) (v := .pointer (some ⟨xb, 1, none⟩)) rfl (Or.inl ⟨by kernel_rfl, fun w' hw' => by clear hw'; go_simp⟩) hH ?_
                simp only [Act.put, U1,U2,U3,U4,U5,U6]
                refine tk_ (i := 26) (v := .pointer (some ⟨xb, 2, none⟩)) rfl (Or.inl ⟨by kernel_rfl, fun w' hw' => by clear hw'; go_simp⟩) hH ?_
                simp only [Act.put, U1,U2,U3,U4,U5,U6]
                refine tk_ (i := 27) (v := .int .i64 x.e.opn) rfl (Or.inl ⟨by kernel_rfl, fun w' hw' => by have h := (HK0.out _ _ hw'.2.1).2.1; go_simp⟩) hH ?_
                simp only [Act.put, U1,U2,U3,U4,U5,U6]
                refine tk_ (i := 28) (v := .int .i64 (q : Nat)) rfl (Or.inl ⟨by kernel_rfl, fun w' hw' => by have h := HQ8.out; go_simp⟩) hH ?_
                simp only [Act.put, U1,U2,U3,U4,U5,U6]
                refine tk_ (i := 29) (v := .pointer (some ⟨kb, q * 9, none⟩)) rfl (Or.inl ⟨by kernel_rfl, fun w' hw' => by have h := HQL.out; go_simp⟩) hH ?_
                simp only [Act.put, U1,U2,U3,U4,U5,U6]
                refine tk_ (i := 30) (v := .agg (E q).cells) rfl ?_ hH ?_
                ·
                 refine yieldsIf_load_mid ?_ 28 (.tmp 68) ?_ kb (q * 9) ?_ (E q).cells.toList _ (fun W hW => kept_range hW.2.2 HQB.out) Tryd.underlying28 rfl (by exact esize)
                 all_goals kernel_rfl
                simp only [Act.put, U1,U2,U3,U4,U5,U6]
                refine tk_ (i := 31) (v := .pointer (some ⟨xb, 1, none⟩)) rfl (Or.inl ⟨by kernel_rfl, fun w' hw' => by clear hw'; go_simp⟩) hH ?_
                simp only [Act.put, U1,U2,U3,U4,U5,U6]
                refine tk_ (i := 32) (v := .agg x.e.cells) rfl ?_ hH ?_
                ·
                 refine yieldsIf_load_mid ?_ 28 (.tmp 70) ?_ xb 1 ?_ x.e.cells.toList _ (fun W hW => (HK0.out _ _ hW.2.1).2.2.1) Tryd.underlying28 rfl (by exact esize)
                 all_goals kernel_rfl
                simp only [Act.put, U1,U2,U3,U4,U5,U6]
                refine tk_ (i := 33) (v := .bool (!false)) rfl (yields_nee (by kernel_rfl) (E q) x.e false HEQ (.tmp 69) (.tmp 71) _ rfl (by kernel_rfl) (by kernel_rfl)) hH ?_
                simp only [Act.put, U1,U2,U3,U4,U5,U6]
                refine tk_ (i := 34) (v := .bool true) rfl (Or.inl ⟨by kernel_rfl, fun w' _ => by kernel_rfl⟩) hH ?_
                simp only [Act.put, U1,U2,U3,U4,U5,U6]
                refine tk_ (i := 35) (v := .bool true) rfl (Or.inl ⟨by kernel_rfl, fun w' _ => by kernel_rfl⟩) hH ?_
                simp only [Act.put, U1,U2,U3,U4,U5,U6]
                refine wpAnyH_done (by kernel_rfl) ?_ _
                try simp only [Act.put, U1,U2,U3,U4,U5,U6]
                go_wp2_with fail
                go_meet
                case rel => exact ⟨congrArg Value.bool HGG.out.symm, hH⟩
             ·
              have HCO := hid (decide_eq_false hn)
              have HGG : Hid (G = false) := hid (by rcases Bool.eq_false_or_eq_true G with h | h; obtain ⟨_, q | q⟩ := HG.out.1 h; exact absurd q.1 h2; exact absurd q.2.1 hn; exact h)
              clear h2 h1 hn
              as_aux_lemma =>
               try simp only [Act.put, U1,U2,U3,U4,U5,U6]
               refine wp_region_held_drew (S := fun W => KW w1 W bw p gs xb kb v E C) (by kernel_rfl) (HK5.out.drew) (fun hH => ?_)
               refine tk_ (i := 0) (v := .bool true) rfl (Or.inl ⟨by kernel_rfl, fun w' _ => by kernel_rfl⟩) hH ?_
               simp only [Act.put, U1, U3, U4, U5, U6]
               refine tk_ (i := 1) (v := .bool true) rfl (Or.inl ⟨by kernel_rfl, fun w' _ => by kernel_rfl⟩) hH ?_
               simp only [Act.put, U1,U2,U3,U4,U5,U6]
               refine tk_ (i := 2) (v := .pointer (some ⟨xb, 0, none⟩)) rfl (Or.inl ⟨by kernel_rfl, fun w' hw' => by clear hw'; go_simp⟩) hH ?_
               simp only [Act.put, U1,U2,U3,U4,U5,U6]
               refine tk_ (i := 3) (v := .int .i64 x.kind) rfl (Or.inl ⟨by kernel_rfl, fun w' hw' => by have h := (HK0.out _ _ hw'.2.1).1; go_simp⟩) hH ?_
               simp only [Act.put, U1,U2,U3,U4,U5,U6]
               refine tk_ (i := 4) (v := .bool false) rfl (Or.inl ⟨by kernel_rfl, fun w' hw' => by have h := HC2.out; go_simp⟩) hH ?_
               simp only [Act.put, U1,U2,U3,U4,U5,U6]
               refine tk_ (i := 5) (v := .bool false) rfl (Or.inl ⟨by kernel_rfl, fun w' _ => by kernel_rfl⟩) hH ?_
               simp only [Act.put, U1,U2,U3,U4,U5,U6]
               refine tk_ (i := 6) (v := .bool false) rfl (Or.inl ⟨by kernel_rfl, fun w' _ => by kernel_rfl⟩) hH ?_
               simp only [Act.put, U1,U2,U3,U4,U5,U6]
               refine tk_ (i := 7) (v := undef) rfl (Or.inr ⟨by kernel_rfl, rfl⟩) hH ?_
               simp only [Act.put, U1,U2,U3,U4,U5,U6]
               refine tk_ (i := 8) (v := undef) rfl (Or.inr ⟨by kernel_rfl, rfl⟩) hH ?_
               simp only [Act.put, U1,U2,U3,U4,U5,U6]
               refine tk_ (i := 9) (v := undef) rfl (Or.inr ⟨by kernel_rfl, rfl⟩) hH ?_
               simp only [Act.put, U1,U2,U3,U4,U5,U6]
               refine tk_ (i := 10) (v := .bool false) rfl (Or.inl ⟨by kernel_rfl, fun w' _ => by kernel_rfl⟩) hH ?_
               simp only [Act.put, U1,U2,U3,U4,U5,U6]
               refine tk_ (i := 11) (v := .bool false) rfl (Or.inl ⟨by kernel_rfl, fun w' _ => by kernel_rfl⟩) hH ?_
               simp only [Act.put, U1,U2,U3,U4,U5,U6]
               refine tk_ (i := 12) (v := .bool true) rfl (Or.inl ⟨by kernel_rfl, fun w' _ => by kernel_rfl⟩) hH ?_
               simp only [Act.put, U1,U2,U3,U4,U5,U6]
               refine tk_ (i := 13) (v := .bool true) rfl (Or.inl ⟨by kernel_rfl, fun w' _ => by kernel_rfl⟩) hH ?_
               simp only [Act.put, U1,U2,U3,U4,U5,U6]
               refine tk_ (i := 14) (v := .pointer (some ⟨xb, 0, none⟩)) rfl (Or.inl ⟨by kernel_rfl, fun w' hw' => by clear hw'; go_simp⟩) hH ?_
               simp only [Act.put, U1,U2,U3,U4,U5,U6]
               refine tk_ (i := 15) (v := .int .i64 x.kind) rfl (Or.inl ⟨by kernel_rfl, fun w' hw' => by have h := (HK0.out _ _ hw'.2.1).1; go_simp⟩) hH ?_
               simp only [Act.put, U1,U2,U3,U4,U5,U6]
               refine tk_ (i := 16) (v := .bool true) rfl (Or.inl ⟨by kernel_rfl, fun w' hw' => by have h := HC1.out; go_simp⟩) hH ?_
               simp only [Act.put, U1,U2,U3,U4,U5,U6]
               refine tk_ (i := 17) (v := .bool true) rfl (Or.inl ⟨by kernel_rfl, fun w' _ => by kernel_rfl⟩) hH ?_
               simp only [Act.put, U1,U2,U3,U4,U5,U6]
               refine tk_ (i := 18) (v := .bool true) rfl (Or.inl ⟨by kernel_rfl, fun w' _ => by kernel_rfl⟩) hH ?_
               simp only [Act.put, U1,U2,U3,U4,U5,U6]
               refine tk_ (i := 19) (v := .pointer (some ⟨xb, 1, none⟩)) rfl (Or.inl ⟨by kernel_rfl, fun w' hw' => by clear hw'; go_simp⟩) hH ?_
               simp only [Act.put, U1,U2,U3,U4,U5,U6]
               refine tk_ (i := 20) (v := .pointer (some ⟨xb, 2, none⟩)) rfl (Or.inl ⟨by kernel_rfl, fun w' hw' => by clear hw'; go_simp⟩) hH ?_
               simp only [Act.put, U1,U2,U3,U4,U5,U6]
               refine tk_ (i := 21) (v := .int .i64 x.e.opn) rfl (Or.inl ⟨by kernel_rfl, fun w' hw' => by have h := (HK0.out _ _ hw'.2.1).2.1; go_simp⟩) hH ?_
               simp only [Act.put, U1,U2,U3,U4,U5,U6]
               refine tk_ (i := 22) (v := .bool false) rfl (Or.inl ⟨by kernel_rfl, fun w' hw' => by have h := HCO.out; go_simp⟩) hH ?_
               simp only [Act.put, U1,U2,U3,U4,U5,U6]
               refine tk_ (i := 23) (v := .bool false) rfl (Or.inl ⟨by kernel_rfl, fun w' _ => by kernel_rfl⟩) hH ?_
               simp only [Act.put, U1,U2,U3,U4,U5,U6]
               refine tk_ (i := 24) (v := .bool false) rfl (Or.inl ⟨by kernel_rfl, fun w' _ => by kernel_rfl⟩) hH ?_
               simp only [Act.put, U1,U2,U3,U4,U5,U6]
               refine tk_ (i := 25) (v := undef) rfl (Or.inr ⟨by kernel_rfl, rfl⟩) hH ?_
               simp only [Act.put, U1,U2,U3,U4,U5,U6]
               refine tk_ (i := 26) (v := undef) rfl (Or.inr ⟨by kernel_rfl, rfl⟩) hH ?_
               simp only [Act.put, U1,U2,U3,U4,U5,U6]
               refine tk_ (i := 27) (v := undef) rfl (Or.inr ⟨by kernel_rfl, rfl⟩) hH ?_
               simp only [Act.put, U1,U2,U3,U4,U5,U6]
               refine tk_ (i := 28) (v := undef) rfl (Or.inr ⟨by kernel_rfl, rfl⟩) hH ?_
               simp only [Act.put, U1,U2,U3,U4,U5,U6]
               refine tk_ (i := 29) (v := undef) rfl (Or.inr ⟨by kernel_rfl, rfl⟩) hH ?_
               simp only [Act.put, U1,U2,U3,U4,U5,U6]
               refine tk_ (i := 30) (v := undef) rfl (Or.inr ⟨by kernel_rfl, rfl⟩) hH ?_
               simp only [Act.put, U1,U2,U3,U4,U5,U6]
               refine tk_ (i := 31) (v := undef) rfl (Or.inr ⟨by kernel_rfl, rfl⟩) hH ?_
               simp only [Act.put, U1,U2,U3,U4,U5,U6]
               refine tk_ (i := 32) (v := undef) rfl (Or.inr ⟨by kernel_rfl, rfl⟩) hH ?_
               simp only [Act.put, U1,U2,U3,U4,U5,U6]
               refine tk_ (i := 33) (v := undef) rfl (Or.inr ⟨by kernel_rfl, rfl⟩) hH ?_
               simp only [Act.put, U1,U2,U3,U4,U5,U6]
               refine tk_ (i := 34) (v := .bool false) rfl (Or.inl ⟨by kernel_rfl, fun w' _ => by kernel_rfl⟩) hH ?_
               simp only [Act.put, U1,U2,U3,U4,U5,U6]
               refine tk_ (i := 35) (v := .bool false) rfl (Or.inl ⟨by kernel_rfl, fun w' _ => by kernel_rfl⟩) hH ?_
               simp only [Act.put, U1,U2,U3,U4,U5,U6]
               refine wpAnyH_done (by kernel_rfl) ?_ _
               try simp only [Act.put, U1,U2,U3,U4,U5,U6]
               go_wp2_with fail
               go_meet
               case rel => exact ⟨congrArg Value.bool HGG.out.symm, hH⟩
            ·
             have HC1 : Hid ((x.kind == 1) = false) := hid (by simpa using h1)
             have HGG : Hid (G = false) := hid (by rcases Bool.eq_false_or_eq_true G with h | h; obtain ⟨_, q | q⟩ := HG.out.1 h; exact absurd q.1 h2; exact absurd q.1 h1; exact h)
             clear h2 h1
             as_aux_lemma =>
              try simp only [Act.put, U1,U2,U3,U4,U5,U6]
              refine wp_region_held_drew (S := fun W => KW w1 W bw p gs xb kb v E C) (by kernel_rfl) (HK5.out.drew) (fun hH => ?_)
              refine tk_ (i := 0) (v := .bool true) rfl (Or.inl ⟨by kernel_rfl, fun w' _ => by kernel_rfl⟩) hH ?_
              simp only [Act.put, U1, U3, U4, U5, U6]
              refine tk_ (i := 1) (v := .bool true) rfl (Or.inl ⟨by kernel_rfl, fun w' _ => by kernel_rfl⟩) hH ?_
              simp only [Act.put, U1,U2,U3,U4,U5,U6]
              refine tk_ (i := 2) (v := .pointer (some ⟨xb, 0, none⟩)) rfl (Or.inl ⟨by kernel_rfl, fun w' hw' => by clear hw'; go_simp⟩) hH ?_
              simp only [Act.put, U1,U2,U3,U4,U5,U6]
              refine tk_ (i := 3) (v := .int .i64 x.kind) rfl (Or.inl ⟨by kernel_rfl, fun w' hw' => by have h := (HK0.out _ _ hw'.2.1).1; go_simp⟩) hH ?_
              simp only [Act.put, U1,U2,U3,U4,U5,U6]
              refine tk_ (i := 4) (v := .bool false) rfl (Or.inl ⟨by kernel_rfl, fun w' hw' => by have h := HC2.out; go_simp⟩) hH ?_
              simp only [Act.put, U1,U2,U3,U4,U5,U6]
              refine tk_ (i := 5) (v := .bool false) rfl (Or.inl ⟨by kernel_rfl, fun w' _ => by kernel_rfl⟩) hH ?_
              simp only [Act.put, U1,U2,U3,U4,U5,U6]
              refine tk_ (i := 6) (v := .bool false) rfl (Or.inl ⟨by kernel_rfl, fun w' _ => by kernel_rfl⟩) hH ?_
              simp only [Act.put, U1,U2,U3,U4,U5,U6]
              refine tk_ (i := 7) (v := undef) rfl (Or.inr ⟨by kernel_rfl, rfl⟩) hH ?_
              simp only [Act.put, U1,U2,U3,U4,U5,U6]
              refine tk_ (i := 8) (v := undef) rfl (Or.inr ⟨by kernel_rfl, rfl⟩) hH ?_
              simp only [Act.put, U1,U2,U3,U4,U5,U6]
              refine tk_ (i := 9) (v := undef) rfl (Or.inr ⟨by kernel_rfl, rfl⟩) hH ?_
              simp only [Act.put, U1,U2,U3,U4,U5,U6]
              refine tk_ (i := 10) (v := .bool false) rfl (Or.inl ⟨by kernel_rfl, fun w' _ => by kernel_rfl⟩) hH ?_
              simp only [Act.put, U1,U2,U3,U4,U5,U6]
              refine tk_ (i := 11) (v := .bool false) rfl (Or.inl ⟨by kernel_rfl, fun w' _ => by kernel_rfl⟩) hH ?_
              simp only [Act.put, U1,U2,U3,U4,U5,U6]
              refine tk_ (i := 12) (v := .bool true) rfl (Or.inl ⟨by kernel_rfl, fun w' _ => by kernel_rfl⟩) hH ?_
              simp only [Act.put, U1,U2,U3,U4,U5,U6]
              refine tk_ (i := 13) (v := .bool true) rfl (Or.inl ⟨by kernel_rfl, fun w' _ => by kernel_rfl⟩) hH ?_
              simp only [Act.put, U1,U2,U3,U4,U5,U6]
              refine tk_ (i := 14) (v := .pointer (some ⟨xb, 0, none⟩)) rfl (Or.inl ⟨by kernel_rfl, fun w' hw' => by clear hw'; go_simp⟩) hH ?_
              simp only [Act.put, U1,U2,U3,U4,U5,U6]
              refine tk_ (i := 15) (v := .int .i64 x.kind) rfl (Or.inl ⟨by kernel_rfl, fun w' hw' => by have h := (HK0.out _ _ hw'.2.1).1; go_simp⟩) hH ?_
              simp only [Act.put, U1,U2,U3,U4,U5,U6]
              refine tk_ (i := 16) (v := .bool false) rfl (Or.inl ⟨by kernel_rfl, fun w' hw' => by have h := HC1.out; go_simp⟩) hH ?_
              simp only [Act.put, U1,U2,U3,U4,U5,U6]
              refine tk_ (i := 17) (v := .bool false) rfl (Or.inl ⟨by kernel_rfl, fun w' _ => by kernel_rfl⟩) hH ?_
              simp only [Act.put, U1,U2,U3,U4,U5,U6]
              refine tk_ (i := 18) (v := .bool false) rfl (Or.inl ⟨by kernel_rfl, fun w' _ => by kernel_rfl⟩) hH ?_
              simp only [Act.put, U1,U2,U3,U4,U5,U6]
              refine tk_ (i := 19) (v := undef) rfl (Or.inr ⟨by kernel_rfl, rfl⟩) hH ?_
              simp only [Act.put, U1,U2,U3,U4,U5,U6]
              refine tk_ (i := 20) (v := undef) rfl (Or.inr ⟨by kernel_rfl, rfl⟩) hH ?_
              simp only [Act.put, U1,U2,U3,U4,U5,U6]
              refine tk_ (i := 21) (v := undef) rfl (Or.inr ⟨by kernel_rfl, rfl⟩) hH ?_
              simp only [Act.put, U1,U2,U3,U4,U5,U6]
              refine tk_ (i := 22) (v := undef) rfl (Or.inr ⟨by kernel_rfl, rfl⟩) hH ?_
              simp only [Act.put, U1,U2,U3,U4,U5,U6]
              refine tk_ (i := 23) (v := .bool false) rfl (Or.inl ⟨by kernel_rfl, fun w' _ => by kernel_rfl⟩) hH ?_
              simp only [Act.put, U1,U2,U3,U4,U5,U6]
              refine tk_ (i := 24) (v := .bool false) rfl (Or.inl ⟨by kernel_rfl, fun w' _ => by kernel_rfl⟩) hH ?_
              simp only [Act.put, U1,U2,U3,U4,U5,U6]
              refine tk_ (i := 25) (v := undef) rfl (Or.inr ⟨by kernel_rfl, rfl⟩) hH ?_
              simp only [Act.put, U1,U2,U3,U4,U5,U6]
              refine tk_ (i := 26) (v := undef) rfl (Or.inr ⟨by kernel_rfl, rfl⟩) hH ?_
              simp only [Act.put, U1,U2,U3,U4,U5,U6]
              refine tk_ (i := 27) (v := undef) rfl (Or.inr ⟨by kernel_rfl, rfl⟩) hH ?_
              simp only [Act.put, U1,U2,U3,U4,U5,U6]
              refine tk_ (i := 28) (v := undef) rfl (Or.inr ⟨by kernel_rfl, rfl⟩) hH ?_
              simp only [Act.put, U1,U2,U3,U4,U5,U6]
              refine tk_ (i := 29) (v := undef) rfl (Or.inr ⟨by kernel_rfl, rfl⟩) hH ?_
              simp only [Act.put, U1,U2,U3,U4,U5,U6]
              refine tk_ (i := 30) (v := undef) rfl (Or.inr ⟨by kernel_rfl, rfl⟩) hH ?_
              simp only [Act.put, U1,U2,U3,U4,U5,U6]
              refine tk_ (i := 31) (v := undef) rfl (Or.inr ⟨by kernel_rfl, rfl⟩) hH ?_
              simp only [Act.put, U1,U2,U3,U4,U5,U6]
              refine tk_ (i := 32) (v := undef) rfl (Or.inr ⟨by kernel_rfl, rfl⟩) hH ?_
              simp only [Act.put, U1,U2,U3,U4,U5,U6]
              refine tk_ (i := 33) (v := undef) rfl (Or.inr ⟨by kernel_rfl, rfl⟩) hH ?_
              simp only [Act.put, U1,U2,U3,U4,U5,U6]
              refine tk_ (i := 34) (v := .bool false) rfl (Or.inl ⟨by kernel_rfl, fun w' _ => by kernel_rfl⟩) hH ?_
              simp only [Act.put, U1,U2,U3,U4,U5,U6]
              refine tk_ (i := 35) (v := .bool false) rfl (Or.inl ⟨by kernel_rfl, fun w' _ => by kernel_rfl⟩) hH ?_
              simp only [Act.put, U1,U2,U3,U4,U5,U6]
              refine wpAnyH_done (by kernel_rfl) ?_ _
              try simp only [Act.put, U1,U2,U3,U4,U5,U6]
              go_wp2_with fail
              go_meet
              case rel => exact ⟨congrArg Value.bool HGG.out.symm, hH⟩
        case rest =>
         as_aux_lemma =>
          obtain ⟨rfl, h6⟩ := hcut
          have HK6 := hid h6
          clear h6 HK5
          go_upto_if 74 with fail
          go_cut [8] from 18 to 194 (fun _ wx => ∃ E1, KeptW x v E E1 ∧ KW w1 wx bw p gs xb kb v E1 C)
          case first =>
           as_aux_lemma =>
            cases G with
            | false =>
             have hno := keptW_no (x := x) HIV.out (fun q => absurd (HG.out.2 q) (by decide))
             go_wp2_with fail
             go_meet
             case rel => exact ⟨E, hno, HK6.out⟩
            | true =>
             obtain ⟨hal, hor⟩ := HG.out.1 rfl
             obtain ⟨hc0, hc1⟩ := c_of_inv HIV.out hal
             have HCB := hid (And.intro hc0 hc1)
             have HFX := HXF.out.1.2.1
             have HAL := hid hal
             clear HG hal hc0 hc1
             by_cases h1 : x.kind = 1
             ·
              obtain ⟨m, hm⟩ : ∃ m, m = x.e.opn := ⟨_, rfl⟩
              have hm0 : 0 < m := by rcases hor with q | q; exact absurd (h1.symm.trans q.1) (by decide); rw [hm]; exact q.2.1
              have hm1 : In64 m := by rw [hm]; exact HFX
              have HM1 : Hid (x.kind = 1 → m = x.e.opn) := hid fun _ => hm
              have HM2 : Hid (x.kind = 2 → m = x.n) := hid fun q => absurd (h1.symm.trans q) (by decide)
              have HC1 : Hid ((x.kind == 1) = true) := hid (by simp [h1])
              have HC2 : Hid ((x.kind == 2) = false) := hid (by rw [h1]; rfl)
              have ca0 := (HK0.out _ _ HK6.out.2.1).1
              have ca2 : wc.cell? ⟨xb, 2, none⟩ = some (.int .i64 m) := by rw [hm]; exact (HK0.out _ _ HK6.out.2.1).2.1
              have ca10 := (HK0.out _ _ HK6.out.2.1).2.2.2
              have c1b := HC1.out
              have hk2 : x.kind ≠ 2 := by rw [h1]; decide
              clear hor HFX hm h1
              as_aux_lemma =>
               have HRI := hid (fun W => eright_any x.e W)
               have em8 : IntKind.i64.wrap (m - 8) = m - 8 := w64 (by omega) (by have := hm1.2; omega)
               have cw2 := KW.c HK6.out
               have c2b := HC2.out
               by_cases hl1 : v.c < m
               ·
                by_cases hl3 : m - 8 ≤ v.c
                ·
                 by_cases hrt : Rt x.e
                 ·
                  rw [decide_eq_true hrt] at HRI
                  clear hrt
                  obtain ⟨q, hq⟩ : ∃ q, q = (m % 8).toNat := ⟨_, rfl⟩
                  have hq8 : q < 8 := by omega
                  have HQB := hid hq8
                  have HQ := hid hq
                  have q8 : m.tmod 8 = (q : Int) := by rw [Int.tmod_eq_emod_of_nonneg (by omega)]; omega
                  have ql : (q : Int) < 8 := by omega
                  clear hq hm0 hm1
                  go_wp2_with (first
                   | (refine wpl_load_midw (by kernel_rfl) 28 (.tmp 103) rfl xb 1 rfl x.e.cells.toList _ (HK0.out _ _ HK6.out.2.1).2.2.1 Tryd.underlying28 rfl (by exact esize) ?_)
                   | (go_at_call 10; refine (HRI.out _).mono ?_; rintro e w10 ⟨rfl, hb10⟩; have HK7 := hid (HK6.out.new hb10); clear hb10)
                   | (refine wpList_store_mid rfl 28 (.tmp 111) (.tmp 110) rfl kb (q * 9) en0.cells rfl rfl (kept_there HK7.out.2.2 HQB.out _) esize (ecells_one _) ?_))
                  go_meet
                  case rel => exact ⟨dropE E q, by rw [HQ.out]; exact keptW_drop HAL.out HM1.out HM2.out, HK7.out.put HXK.out HKL.out HQB.out en0⟩
                 ·
                  rw [decide_eq_false hrt] at HRI
                  have HRT := hid hrt
                  clear hrt
                  go_wp2_with (first
                   | (refine wpl_load_midw (by kernel_rfl) 28 (.tmp 103) rfl xb 1 rfl x.e.cells.toList _ (HK0.out _ _ HK6.out.2.1).2.2.1 Tryd.underlying28 rfl (by exact esize) ?_)
                   | (go_at_call 10; refine (HRI.out _).mono ?_; rintro e w10 ⟨rfl, hb10⟩; have HK7 := hid (HK6.out.new hb10); clear hb10))
                  go_meet
                  case rel => exact ⟨E, keptW_skip HM1.out HM2.out (by rintro ⟨_, q | q⟩; exact hk2 q; exact HRT.out q), HK7.out⟩
                ·
                 go_wp2_with fail
                 go_meet
                 case rel => exact ⟨E, keptW_skip HM1.out HM2.out (by rintro ⟨⟨_, q⟩, _⟩; omega), HK6.out⟩
               ·
                go_wp2_with fail
                go_meet
                case rel => exact ⟨E, keptW_skip HM1.out HM2.out (by rintro ⟨⟨q, _⟩, _⟩; omega), HK6.out⟩
             ·
              obtain ⟨m, hm⟩ : ∃ m, m = x.n := ⟨_, rfl⟩
              have h2 : x.kind = 2 := by rcases hor with q | q; exact q.1; exact absurd q.1 h1
              have hm0 : 0 < m := by rcases hor with q | q; rw [hm]; exact q.2; exact absurd q.1 h1
              have hm1 : m ≤ 9223372036854775807 := by have := HXN.out; omega
              have HM1 : Hid (x.kind = 1 → m = x.e.opn) := hid fun q => absurd q h1
              have HM2 : Hid (x.kind = 2 → m = x.n) := hid fun _ => hm
              have HC1 : Hid ((x.kind == 1) = false) := hid (by simpa using h1)
              have HC2 : Hid ((x.kind == 2) = true) := hid (by simp [h2])
              have ca0 := (HK0.out _ _ HK6.out.2.1).1
              have ca10 : wc.cell? ⟨xb, 10, none⟩ = some (.int .i64 m) := by rw [hm]; exact (HK0.out _ _ HK6.out.2.1).2.2.2
              have c1b := HC1.out
              clear hor HFX hm h1
              as_aux_lemma =>
               have em8 : IntKind.i64.wrap (m - 8) = m - 8 := w64 (by omega) (by have := hm1; omega)
               have cw2 := KW.c HK6.out
               have c2b := HC2.out
               by_cases hl1 : v.c < m
               ·
                by_cases hl3 : m - 8 ≤ v.c
                ·
                 obtain ⟨q, hq⟩ : ∃ q, q = (m % 8).toNat := ⟨_, rfl⟩
                 have hq8 : q < 8 := by omega
                 have HQB := hid hq8
                 have HQ := hid hq
                 have q8 : m.tmod 8 = (q : Int) := by rw [Int.tmod_eq_emod_of_nonneg (by omega)]; omega
                 have ql : (q : Int) < 8 := by omega
                 clear hq hm0 hm1
                 go_wp2_with (first
                  | (refine wpList_store_mid rfl 28 (.tmp 111) (.tmp 110) rfl kb (q * 9) en0.cells rfl rfl (kept_there HK6.out.2.2 HQB.out _) esize (ecells_one _) ?_))
                 go_meet
                 case rel => exact ⟨dropE E q, by rw [HQ.out]; exact keptW_drop HAL.out HM1.out HM2.out, HK6.out.put HXK.out HKL.out HQB.out en0⟩
                ·
                 go_wp2_with fail
                 go_meet
                 case rel => exact ⟨E, keptW_skip HM1.out HM2.out (by rintro ⟨⟨_, q⟩, _⟩; omega), HK6.out⟩
               ·
                go_wp2_with fail
                go_meet
                case rel => exact ⟨E, keptW_skip HM1.out HM2.out (by rintro ⟨⟨q, _⟩, _⟩; omega), HK6.out⟩
          case rest =>
           as_aux_lemma =>
            obtain ⟨E1, hkw, h7⟩ := hcut
            obtain ⟨hd1, hd2⟩ := kept_does HXF.out HIV.out hkw
            have HD1 := hid hd1
            have HD2 := hid hd2
            have HPP := hid (fun ha k1 hy => put_pos (x := x) HIV.out ha k1 hy)
            have hcn := doesJ_count (v := v) (fun J hJ => by
             obtain ⟨S, j, c⟩ := v
             have hJ : j = some J := hJ
             subst hJ
             exact (step_f x c HXF.out).wf HIV.out.1.2) x
            have HCN := hid hcn
            have HK7 := hid h7
            clear hd1 hd2 hcn hkw h7 HK6 HG
            generalize v.j.isSome = al at *
            generalize doesJ v x = R at *
            obtain ⟨v', y⟩ := R
            simp only at HD1 HD2 HPP HCN HDO
            go_upto_region 20 with (first
             | ((with_reducible show wpList _ _ _ ({ dst := some 113, op := _, type := _, pos := _, after := _, guard := _ } :: _) _ _); refine wpList_load_row rfl 32 (.tmp 6) rfl xb rfl 32 C (0, 0) _ HK7.out.2.1.arr Tryd.underlying32 rfl (by rw [HCS.out]; exact actSize) ?_)
             | (go_at_call 11; refine (HDO.out _ _ HK7.out.1).mono ?_; rintro e w5 ⟨rfl, q, k5⟩; have HK8 : Hid (KW w1 w5 bw p gs xb kb v' E1 C) := hid ⟨q, k5.row HK7.out.2.1 (by simp), k5.row HK7.out.2.2 (by simp)⟩; clear q k5))
            obtain ⟨G2, hG2⟩ : ∃ G2 : Bool, G2 = true ↔ (al = true ∧ x.kind = 1 ∧ y = 0) := by
             classical
             exact ⟨decide _, decide_eq_true_iff⟩
            have HG2 := hid hG2
            clear hG2 HDO HK7
            go_cut [124] from 18 to 194 (fun b wx => b = .bool G2 ∧ KW w1 wx bw p gs xb kb v' E1 C)
            case first =>
             as_aux_lemma =>
              cases al with
              | false =>
               have HGG : Hid (G2 = false) := hid (by rcases Bool.eq_false_or_eq_true G2 with h | h; exact absurd (HG2.out.1 h).1 (by decide); exact h)
               as_aux_lemma =>
                go_wp2_with fail
                go_meet
                case rel => exact ⟨congrArg Value.bool HGG.out.symm, HK8.out⟩
              | true =>
               by_cases h1 : x.kind = 1
               ·
                have HC1 : Hid ((x.kind == 1) = true) := hid (by simp [h1])
                by_cases hy : y = 0
                ·
                 have HGG : Hid (G2 = true) := hid (HG2.out.2 ⟨rfl, h1, hy⟩)
                 have HY0 : Hid ((y == 0) = true) := hid (by simp [hy])
                 clear h1 hy
                 as_aux_lemma =>
                  have ca0 := (HK0.out _ _ HK8.out.2.1).1
                  have c1b := HC1.out
                  have y0 := HY0.out
                  go_wp2_with fail
                  go_meet
                  case rel => exact ⟨congrArg Value.bool HGG.out.symm, HK8.out⟩
                ·
                 have HGG : Hid (G2 = false) := hid (by rcases Bool.eq_false_or_eq_true G2 with h | h; exact absurd (HG2.out.1 h).2.2 hy; exact h)
                 have HY0 : Hid ((y == 0) = false) := hid (by simpa using hy)
                 clear h1 hy
                 as_aux_lemma =>
                  have ca0 := (HK0.out _ _ HK8.out.2.1).1
                  have c1b := HC1.out
                  have y0 := HY0.out
                  go_wp2_with fail
                  go_meet
                  case rel => exact ⟨congrArg Value.bool HGG.out.symm, HK8.out⟩
               ·
                have HC1 : Hid ((x.kind == 1) = false) := hid (by simpa using h1)
                have HGG : Hid (G2 = false) := hid (by rcases Bool.eq_false_or_eq_true G2 with h | h; exact absurd (HG2.out.1 h).2.1 h1; exact h)
                clear h1
                as_aux_lemma =>
                 have ca0 := (HK0.out _ _ HK8.out.2.1).1
                 have c1b := HC1.out
                 go_wp2_with fail
                 go_meet
                 case rel => exact ⟨congrArg Value.bool HGG.out.symm, HK8.out⟩
            case rest =>
             as_aux_lemma =>
              obtain ⟨rfl, h9⟩ := hcut
              have HK9 := hid h9
              clear h9 HK8
              go_upto_if 124 with fail
              go_cut [8] from 18 to 194 (fun _ wx => ∃ E2, InvE E2 v' ∧ KW w1 wx bw p gs xb kb v' E2 C)
              case first =>
               as_aux_lemma =>
                cases G2 with
                | false =>
                 go_wp2_with fail
                 go_meet
                 case rel => exact ⟨E1, HD1.out, HK9.out⟩
                | true =>
                 obtain ⟨hal, k1, hy⟩ := HG2.out.1 rfl
                 have hp := HPP.out hal k1 hy
                 have HI2 := hid (HD2.out hal k1 hy)
                 obtain ⟨q, hq⟩ : ∃ q, q = (x.e.opn % 8).toNat := ⟨_, rfl⟩
                 have hq8 : q < 8 := by omega
                 have HQB := hid hq8
                 have HQ := hid hq
                 have q8 : x.e.opn.tmod 8 = (q : Int) := by rw [Int.tmod_eq_emod_of_nonneg (by omega)]; omega
                 have ql : (q : Int) < 8 := by omega
                 have ca2 := (HK0.out _ _ HK9.out.2.1).2.1
                 clear hal k1 hy hp hq HG2
                 go_wp2_with (first
                  | (refine wpl_load_midw rfl 28 (.tmp 129) rfl xb 1 rfl x.e.cells.toList _ (HK0.out _ _ HK9.out.2.1).2.2.1 Tryd.underlying28 rfl (by exact esize) ?_)
                  | (refine wpList_store_mid rfl 28 (.tmp 131) (.tmp 130) rfl kb (q * 9) x.e.cells rfl rfl (kept_there HK9.out.2.2 HQB.out _) esize (ecells_one _) ?_))
                 go_meet
                 case rel => exact ⟨setE E1 q x.e, by rw [HQ.out]; exact HI2.out, HK9.out.put HXK.out HKL.out HQB.out x.e⟩
              case rest =>
               as_aux_lemma =>
                obtain ⟨E2, hi2, h10⟩ := hcut
                have HI3 := hid hi2
                have HKA := hid h10
                obtain ⟨S', j', c'⟩ := v'
                cases j' with
                | none =>
                 have cb1 : wc.cell? ⟨bw, 1, none⟩ = some (.pointer none) := h10.1.2.2.2.at_ 1 _ rfl
                 clear hi2 h10 HD1 HD2 HPP HG2 HK9
                 go_wp2_with fail
                 go_loopw [10] (fun i wr => i = .int .i64 0 ∧ KW w1 wr bw p gs xb kb ⟨S', none, c'⟩ E2 C) (fun _ _ => 0)
                 case atStart => exact ⟨rfl, HKA.out⟩
                 case round =>
                  as_aux_lemma =>
                   obtain ⟨rfl, h11⟩ := hrel
                   have cb2 : wr.cell? ⟨bw, 1, none⟩ = some (.pointer none) := h11.1.2.2.2.at_ 1 _ rfl
                   have HKB := hid h11
                   clear h11
                   go_wp2_with fail
                   go_roundw
                   case rel => exact ⟨k + 1, ⟨S', none, c'⟩, E2, by omega, by omega, by go_num, HI3, by have h1 : S'.count ≤ _ + 32 := HCN.out; have h2 : _ ≤ 17 + 32 * k := HCC.out; show S'.count ≤ 17 + 32 * (k + 1); exact Nat.le_trans h1 (by omega), HKB.out.1.tail, HKB.out.2.2⟩
                   case measure => simp [intOf]; omega
                | some J' =>
                 obtain ⟨hcj, hhf⟩ := hi2.1
                 have hcj : c' = J'.c := hcj
                 have hhf : HereF S' J' := hhf
                 subst hcj
                 obtain ⟨hbw, hbG, jp5, hJ5, hr5⟩ := h10.1
                 have HBW := hid hbw
                 have HBK : Hid (bw ≠ kb) := hid (by simp only [List.mem_cons, not_or] at hbG; exact hbG.2.1)
                 have HW := hid hhf.wf
                 have HIT : Hid (∀ W (Y : List Nat), Jd w1 W jp5 p gs S' J' Y → ∀ n, Calls Tryd.prog 12 #[.pointer (some ⟨jp5, 0, none⟩), .int .i64 n] W (VE W (.agg (J'.item n).cells))) := hid fun W Y hW n => item_any13 hW HW.out n
                 have HLW : Hid (LW w1 wc bw jp5 p gs kb S' J' E2) := hid ⟨hJ5.sub (by intro g hg; simp only [List.mem_cons, List.not_mem_nil, or_false] at hg ⊢; rcases hg with h | h; exact .inl h; exact .inr (.inr h)), hr5, h10.2.2⟩
                 clear hi2 h10 HD1 HD2 HPP HG2 HK9 HKA hhf hbw hbG hJ5 hr5
                 go_wp2_with fail
                 go_loopw [10] (fun i wr => ∃ (m : Nat) (E : Nat → En), m ≤ 8 ∧ i = .int .i64 (m : Int) ∧ Hid (InvE E ⟨S', some J', J'.c⟩) ∧ LW w1 wr bw jp5 p gs kb S' J' E) (fun i _ => 8 - (intOf i).toNat)
                 case atStart => exact ⟨0, E2, by omega, rfl, HI3, HLW.out⟩
                 case round =>
                  as_aux_lemma =>
                   clear HI3 HLW
                   obtain ⟨m, E, hm, rfl, HI3, hq⟩ := hrel
                   have HQ := hid hq
                   have cr1 : wr.cell? ⟨bw, 1, none⟩ = some (.pointer (some ⟨jp5, 0, none⟩)) := hq.2.1.at_ 1 _ rfl
                   clear hq
                   by_cases hlm : m < 8
                   ·
                    have hml : (m : Int) < 8 := by omega
                    have HML := hid hml
                    have HM8 := hid hlm
                    go_upto_region 25 with fail
                    go_cut [151] from 132 to 194 (fun b wx => b = .bool (decide ((E m).opn ≤ J'.c)) ∧ LW w1 wx bw jp5 p gs kb S' J' E)
                    case first =>
                     as_aux_lemma =>
                      try simp only [Act.put, U1,U2,U3,U4,U5,U6]
                      refine wp_region_held_drew (S := fun W => LW w1 W bw jp5 p gs kb S' J' E) (by kernel_rfl) (HQ.out.drew) (fun hH => ?_)
                      refine tk_ (i := 0) (v := .int .i64 (m : Int)) rfl (Or.inl ⟨by rfl, fun w' hw' => by clear hw'; go_simp⟩) hH ?_
                      simp only [Act.put, U1, U3, U4, U5, U6]
                      refine tk_ (i := 1) (v := .pointer (some ⟨kb, m * 9, none⟩)) rfl (Or.inl ⟨by rfl, fun w' hw' => by have h := HML.out; go_simp⟩) hH ?_
                      simp only [Act.put, U1,U2,U3,U4,U5,U6]
                      refine tk_ (i := 2) (v := .pointer (some ⟨kb, m * 9 + 1, none⟩)) rfl (Or.inl ⟨by rfl, fun w' hw' => by clear hw'; go_simp⟩) hH ?_
                      simp only [Act.put, U1,U2,U3,U4,U5,U6]
                      refine tk_ (i := 3) (v := .int .i64 (E m).opn) rfl (Or.inl ⟨by rfl, fun w' hw' => by have h := kept_op hw'.2.2 HM8.out; go_simp⟩) hH ?_
                      simp only [Act.put, U1,U2,U3,U4,U5,U6]
                      refine tk_ (i := 4) (v := .pointer (some ⟨bw, 0, none⟩)) rfl (Or.inl ⟨by rfl, fun w' hw' => by clear hw'; go_simp⟩) hH ?_
                      simp only [Act.put, U1,U2,U3,U4,U5,U6]
                      refine tk_ (i := 5) (v := .pointer (some ⟨bw, 0, none⟩)) rfl (Or.inl ⟨by rfl, fun w' hw' => by clear hw'; go_simp⟩) hH ?_
                      simp only [Act.put, U1,U2,U3,U4,U5,U6]
                      refine tk_ (i := 6) (v := .pointer (some ⟨bw, 2, none⟩)) rfl (Or.inl ⟨by rfl, fun w' hw' => by clear hw'; go_simp⟩) hH ?_
                      simp only [Act.put, U1,U2,U3,U4,U5,U6]
                      refine tk_ (i := 7) (v := .int .i64 J'.c) rfl (Or.inl ⟨by rfl, fun w' hw' => by have h := hw'.2.1.at_ 2 (.int .i64 J'.c) rfl; go_simp⟩) hH ?_
                      simp only [Act.put, U1,U2,U3,U4,U5,U6]
                      refine tk_ (i := 8) (v := .bool (decide ((E m).opn ≤ J'.c))) rfl (Or.inl ⟨by rfl, fun w' hw' => by clear hw'; go_simp⟩) hH ?_
                      simp only [Act.put, U1,U2,U3,U4,U5,U6]
                      refine wpAnyH_done (by kernel_rfl) ?_ _
                      try simp only [Act.put, U1,U2,U3,U4,U5,U6]
                      go_wp2_with fail
                      go_meet
                      case rel => exact ⟨rfl, hH⟩
                    case rest =>
                     as_aux_lemma =>
                      obtain ⟨rfl, h12⟩ := hcut
                      have HQ2 := hid h12
                      clear h12 HQ cr1
                      by_cases hst : (E m).opn ≤ J'.c
                      ·
                       rw [decide_eq_true hst]
                       have HI4 := hid (drop_stale HI3.out rfl m)
                       clear hst
                       go_wp2_with ((with_reducible show wpList _ _ _ ({ dst := none, op := .store _ (.tmp 154) _, type := _, pos := _, after := _, guard := _ } :: _) _ _); refine wpList_store_mid rfl 28 (.tmp 154) (.tmp 153) rfl kb (m * 9) en0.cells rfl rfl (kept_there HQ2.out.2.2 HM8.out _) esize (ecells_one _) ?_)
                       go_roundw
                       case rel => exact ⟨m + 1, dropE E m, by omega, by go_num, HI4, HQ2.out.put HBK.out HKL.out HM8.out en0⟩
                       case measure => simp [intOf]; omega
                      ·
                       rw [decide_eq_false hst]
                       have HME := hid (mem_kept HI3.out rfl HM8.out (by show J'.c < _; omega))
                       have HFE := hid (HI3.out.2.2.kept.fits m HM8.out (by show J'.c < _; omega))
                       clear hst
                       obtain ⟨it, hit⟩ : ∃ it, J'.item (E m).opn = it := ⟨_, rfl⟩
                       have HIC : Hid (∀ W, LW w1 W bw jp5 p gs kb S' J' E → Calls Tryd.prog 12 #[.pointer (some ⟨jp5, 0, none⟩), .int .i64 (E m).opn] W (VE W (.agg it.cells))) := hid fun W hW => by
                        have h1 := HIT.out W _ hW.1 (E m).opn
                        rw [hit] at h1
                        exact h1
                       rw [hit] at HME
                       have HQ3 := HQ2
                       clear hit HIT
                       go_upto_region 27 with fail
                       go_cut [11] from 132 to 194 (fun v11 wx => ∃ ib, v11 = .pointer (some ⟨ib, 0, none⟩) ∧ LW w1 wx bw jp5 p gs kb S' J' E ∧ Row wx ib 44 it.cells.toList)
                       case first =>
                        as_aux_lemma =>
                         try simp only [Act.put, U1,U2,U3,U4,U5,U6]
                         refine wp_region_held_drew (S := fun W => LW w1 W bw jp5 p gs kb S' J' E) (by kernel_rfl) (HQ3.out.drew) (fun hH => ?_)
                         refine tk_ (i := 0) (v := .pointer (some ⟨bw, 0, none⟩)) rfl (Or.inl ⟨by rfl, fun w' hw' => by clear hw'; go_simp⟩) hH ?_
                         simp only [Act.put, U1, U3, U4, U5, U6]
                         refine tk_ (i := 1) (v := .pointer (some ⟨bw, 0, none⟩)) rfl (Or.inl ⟨by rfl, fun w' hw' => by clear hw'; go_simp⟩) hH ?_
                         simp only [Act.put, U1,U2,U3,U4,U5,U6]
                         refine tk_ (i := 2) (v := .pointer (some ⟨bw, 1, none⟩)) rfl (Or.inl ⟨by rfl, fun w' hw' => by clear hw'; go_simp⟩) hH ?_
                         simp only [Act.put, U1,U2,U3,U4,U5,U6]
                         refine tk_ (i := 3) (v := .pointer (some ⟨jp5, 0, none⟩)) rfl (Or.inl ⟨by rfl, fun w' hw' => by have h := hw'.2.1.at_ 1 (.pointer (some ⟨jp5, 0, none⟩)) rfl; go_simp⟩) hH ?_
                         simp only [Act.put, U1,U2,U3,U4,U5,U6]
                         refine tk_ (i := 4) (v := .int .i64 (m : Int)) rfl (Or.inl ⟨by rfl, fun w' hw' => by clear hw'; go_simp⟩) hH ?_
                         simp only [Act.put, U1,U2,U3,U4,U5,U6]
                         refine tk_ (i := 5) (v := .pointer (some ⟨kb, m * 9, none⟩)) rfl (Or.inl ⟨by rfl, fun w' hw' => by have h := HML.out; go_simp⟩) hH ?_
                         simp only [Act.put, U1,U2,U3,U4,U5,U6]
                         refine tk_ (i := 6) (v := .pointer (some ⟨kb, m * 9 + 1, none⟩)) rfl (Or.inl ⟨by rfl, fun w' hw' => by clear hw'; go_simp⟩) hH ?_
                         simp only [Act.put, U1,U2,U3,U4,U5,U6]
                         refine tk_ (i := 7) (v := .int .i64 (E m).opn) rfl (Or.inl ⟨by rfl, fun w' hw' => by have h := kept_op hw'.2.2 HM8.out; go_simp⟩) hH ?_
                         simp only [Act.put, U1,U2,U3,U4,U5,U6]
                         refine wpAnyH_ready (rs := [8, 9]) (by kernel_rfl) (by simp) ?_
                         refine AllReadyH.cons rfl (fun K hK => ?_) (AllReadyH.cons rfl (fun K hK => ?_) AllReadyH.nil)
                         ·
                          go_simp
                          go_at_call 12
                          refine (HIC.out _ hH).mono ?_
                          rintro e w13 ⟨rfl, hb13⟩
                          have B13 := hid ((Below.drew (Below.refl wc.heap.size wc)).trans (hb13.mono (Nat.le_refl _)))
                          clear hb13
                          go_wp2_with fail
                          refine hK.out _ _ (HQ3.out.new B13.out) (fun hH => ?_)
                          clear hK K
                          try simp only [Act.put, U1,U2,U3,U4,U5,U6]
                          refine wpAnyH_ready (rs := [9]) (by kernel_rfl) (by simp) ?_
                          refine AllReadyH.cons rfl (fun K hK => ?_) AllReadyH.nil
                          go_simp
                          have B14 := hid (B13.out.alloc B13.out.size (.cells it0.cells 44))
                          refine hK.out _ _ (HQ3.out.new B14.out) (fun hH => ?_)
                          clear hK K
                          try simp only [Act.put, U1,U2,U3,U4,U5,U6]
                          refine wpAnyH_ready (rs := [10]) (by kernel_rfl) (by simp) ?_
                          refine AllReadyH.cons rfl (fun K hK => ?_) AllReadyH.nil
                          rw [if_pos (by kernel_rfl)]
                          refine wp_store_st (.tmp 11) (.tmp 163) rfl itemSize13 w13.heap.size it0.cells it.cells (by kernel_rfl) (by kernel_rfl) (Row.new _ _ _) rfl rfl (itC_one it) (fun w6 hr6 hg6 => ?_)
                          have B15 := hid (B14.out.trans (below_grown hg6 B13.out.size B14.out.size))
                          have H15 := hid (HQ3.out.new B15.out)
                          have R15 := hid hr6
                          clear hr6 hg6
                          refine hK.out _ _ H15.out (fun hH => ?_)
                          clear hK K
                          try simp only [Act.put, U1, U2, U3]
                          refine wpAnyH_done (by kernel_rfl) ?_ _
                          try simp only [Act.put, U1,U2,U3,U4,U5,U6]
                          go_wp2_with fail
                          go_meet
                          case rel => exact ⟨_, rfl, H15.out, R15.out⟩
                         ·
                          go_simp
                          have B14 := hid ((Below.drew (Below.refl wc.heap.size wc)).alloc (Nat.le_refl _) (.cells it0.cells 44))
                          have R14 : Hid (Row (World.alloc wc.drew (.cells it0.cells 44)) wc.heap.size 44 it0.cells.toList) := hid (Row.new wc.drew _ _)
                          refine hK.out _ _ (HQ3.out.new B14.out) (fun hH => ?_)
                          clear hK K
                          try simp only [Act.put, U1,U2,U3,U4,U5,U6]
                          refine wpAnyH_ready (rs := [8]) (by kernel_rfl) (by simp) ?_
                          refine AllReadyH.cons rfl (fun K hK => ?_) AllReadyH.nil
                          go_simp
                          go_at_call 12
                          refine (HIC.out _ hH).mono ?_
                          rintro e w13 ⟨rfl, hb13⟩
                          have B13 := hid (B14.out.trans (hb13.mono B14.out.size))
                          have R13 := hid (R14.out.below hb13 R14.out.lt)
                          clear hb13
                          go_wp2_with fail
                          refine hK.out _ _ (HQ3.out.new B13.out) (fun hH => ?_)
                          clear hK K
                          try simp only [Act.put, U1,U2,U3,U4,U5,U6]
                          refine wpAnyH_ready (rs := [10]) (by kernel_rfl) (by simp) ?_
                          refine AllReadyH.cons rfl (fun K hK => ?_) AllReadyH.nil
                          rw [if_pos (by kernel_rfl)]
                          refine wp_store_st (.tmp 11) (.tmp 163) rfl itemSize13 wc.heap.size it0.cells it.cells (by kernel_rfl) (by kernel_rfl) R13.out rfl rfl (itC_one it) (fun w6 hr6 hg6 => ?_)
                          have B15 := hid (B13.out.trans (below_grown hg6 (Nat.le_refl _) B13.out.size))
                          have H15 := hid (HQ3.out.new B15.out)
                          have R15 := hid hr6
                          clear hr6 hg6
                          refine hK.out _ _ H15.out (fun hH => ?_)
                          clear hK K
                          try simp only [Act.put, U1, U2, U3]
                          refine wpAnyH_done (by kernel_rfl) ?_ _
                          try simp only [Act.put, U1,U2,U3,U4,U5,U6]
                          go_wp2_with fail
                          go_meet
                          case rel => exact ⟨_, rfl, H15.out, R15.out⟩
                       case rest =>
                        as_aux_lemma =>
                         obtain ⟨ib, rfl, h13, r13⟩ := hcut
                         have H13 := hid h13
                         have R13 := hid r13
                         clear h13 r13 HQ2 HQ3
                         have HSB : Hid (∀ W, LW w1 W bw jp5 p gs kb S' J' E → Calls Tryd.prog 13 #[.agg (E m).cells] W (VE W (.agg (stubS (E m)).cells))) := hid fun W hW => sstub_any (E m) HFE.out W hW.1.fd
                         go_upto_region 29 with (first
                          | (refine wpl_load_midw rfl 28 (.tmp 165) rfl kb (m * 9) rfl (E m).cells.toList _ (kept_range H13.out.2.2 HM8.out) Tryd.underlying28 rfl (by exact esize) ?_)
                          | (go_at_call 13; refine (HSB.out _ H13.out).mono ?_; rintro e w14 ⟨rfl, hb14⟩; have H14 := hid (H13.out.new hb14); have R14 := hid (R13.out.below hb14 R13.out.lt); clear hb14)
                          | (refine wpl_store_st rfl (.tmp 12) (.tmp 167) rfl (n := 5) stSize13 w14.heap.size st0.cells (stubS (E m)).cells rfl rfl (Row.new _ _ _) ?_ (hid rfl) (hid rfl) (hid (stC_one _)); intro w15 hr15 hg15; have RS15 := hid hr15; have hb15 := ((Below.refl w14.heap.size w14).alloc (Nat.le_refl _) (.cells st0.cells 42)).trans (below_grown hg15 (Nat.le_refl _) (by simp)); have H15 := hid (H14.out.new hb15); have R15 := hid (R14.out.below hb15 R14.out.lt); clear hr15 hg15 hb15))
                         generalize w14.heap.size = sk at *
                         rcases HME.out with rfl | rfl | rfl
                         ·
                          as_aux_lemma =>
                           try simp only [Act.put]
                           refine wp_region_held_drew (S := fun W => LW w1 W bw jp5 p gs kb S' J' E ∧ Row W ib 44 (It.cells ⟨1, stubS (E m), E m⟩).toList ∧ Row W sk 42 (stubS (E m)).cells.toList) (by kernel_rfl) (⟨H15.out.drew, R15.out, RS15.out⟩) (fun hH => ?_)
                           refine tk_ (i := 0) (v := .pointer (some ⟨ib, 0, none⟩)) rfl (Or.inl ⟨by rfl, fun w' hw' => by clear hw'; go_simp⟩) hH ?_
                           simp only [Act.put, U1, U3, U4, U5, U6]
                           refine tk_ (i := 1) (v := .int .i64 1) rfl (Or.inl ⟨by rfl, fun w' hw' => by have h := hw'.2.1.at_ 0 (.int .i64 1) rfl; go_simp⟩) hH ?_
                           simp only [Act.put, U1,U2,U3,U4,U5,U6]
                           refine tk_ (i := 2) (v := .bool false) rfl (Or.inl ⟨by rfl, fun w' hw' => by clear hw'; go_simp⟩) hH ?_
                           simp only [Act.put, U1,U2,U3,U4,U5,U6]
                           refine tk_ (i := 3) (v := .bool false) rfl (Or.inl ⟨by rfl, fun w' hw' => by clear hw'; go_simp⟩) hH ?_
                           simp only [Act.put, U1,U2,U3,U4,U5,U6]
                           refine tk_ (i := 4) (v := .pointer (some ⟨ib, 0, none⟩)) rfl (Or.inl ⟨by kernel_rfl, fun w' hw' => by clear hw'; go_simp⟩) hH ?_
                           simp only [Act.put, U1,U2,U3,U4,U5,U6]
                           refine tk_ (i := 5) (v := .int .i64 1) rfl (Or.inl ⟨by kernel_rfl, fun w' hw' => by have h := hw'.2.1.at_ 0 (.int .i64 1) rfl; go_simp⟩) hH ?_
                           simp only [Act.put, U1,U2,U3,U4,U5,U6]
                           refine tk_ (i := 6) (v := .bool true) rfl (Or.inl ⟨by kernel_rfl, fun w' hw' => by clear hw'; go_simp⟩) hH ?_
                           simp only [Act.put, U1,U2,U3,U4,U5,U6]
                           refine tk_ (i := 7) (v := .bool true) rfl (Or.inl ⟨by kernel_rfl, fun w' hw' => by clear hw'; go_simp⟩) hH ?_
                           simp only [Act.put, U1,U2,U3,U4,U5,U6]
                           refine tk_ (i := 8) (v := .pointer (some ⟨ib, 6, none⟩)) rfl (Or.inl ⟨by kernel_rfl, fun w' hw' => by clear hw'; go_simp⟩) hH ?_
                           simp only [Act.put, U1,U2,U3,U4,U5,U6]
                           refine tk_ (i := 9) (v := .agg (E m).cells) rfl ?_ hH ?_
                           ·
                            refine yieldsIf_load_mid ?_ 28 (.tmp 176) ?_ ib (6) ?_ _ _ (fun W hW => it_entry hW.2.1) Tryd.underlying28 rfl esize
                            all_goals kernel_rfl
                           simp only [Act.put, U1,U2,U3,U4,U5,U6]
                           refine tk_ (i := 10) (v := .int .i64 (m : Int)) rfl (Or.inl ⟨by kernel_rfl, fun w' hw' => by clear hw'; go_simp⟩) hH ?_
                           simp only [Act.put, U1,U2,U3,U4,U5,U6]
                           refine tk_ (i := 11) (v := .pointer (some ⟨kb, m * 9, none⟩)) rfl (Or.inl ⟨by kernel_rfl, fun w' hw' => by have h := HML.out; go_simp⟩) hH ?_
                           simp only [Act.put, U1,U2,U3,U4,U5,U6]
                           refine tk_ (i := 12) (v := .agg (E m).cells) rfl ?_ hH ?_
                           ·
                            refine yieldsIf_load_mid ?_ 28 (.tmp 179) ?_ kb (m * 9) ?_ _ _ (fun W hW => kept_range hW.1.2.2 HM8.out) Tryd.underlying28 rfl esize
                            all_goals kernel_rfl
                           simp only [Act.put, U1,U2,U3,U4,U5,U6]
                           refine tk_ (i := 13) (v := .bool (!true)) rfl (yields_nee (by kernel_rfl) (E m) (E m) true (hid ⟨fun _ => rfl, fun _ => rfl⟩) (.tmp 177) (.tmp 180) _ rfl (by kernel_rfl) (by kernel_rfl)) hH ?_
                           simp only [Act.put, U1,U2,U3,U4,U5,U6]
                           refine tk_ (i := 14) (v := .bool false) rfl (Or.inl ⟨by kernel_rfl, fun w' _ => by kernel_rfl⟩) hH ?_
                           simp only [Act.put, U1,U2,U3,U4,U5,U6]
                           refine tk_ (i := 15) (v := .bool false) rfl (Or.inl ⟨by kernel_rfl, fun w' _ => by kernel_rfl⟩) hH ?_
                           simp only [Act.put, U1,U2,U3,U4,U5,U6]
                           refine tk_ (i := 16) (v := .bool false) rfl (Or.inl ⟨by kernel_rfl, fun w' _ => by kernel_rfl⟩) hH ?_
                           simp only [Act.put, U1,U2,U3,U4,U5,U6]
                           refine tk_ (i := 17) (v := .pointer (some ⟨ib, 0, none⟩)) rfl (Or.inl ⟨by kernel_rfl, fun w' hw' => by clear hw'; go_simp⟩) hH ?_
                           simp only [Act.put, U1,U2,U3,U4,U5,U6]
                           refine tk_ (i := 18) (v := .int .i64 1) rfl (Or.inl ⟨by kernel_rfl, fun w' hw' => by have h := hw'.2.1.at_ 0 (.int .i64 1) rfl; go_simp⟩) hH ?_
                           simp only [Act.put, U1,U2,U3,U4,U5,U6]
                           refine tk_ (i := 19) (v := .bool false) rfl (Or.inl ⟨by kernel_rfl, fun w' hw' => by clear hw'; go_simp⟩) hH ?_
                           simp only [Act.put, U1,U2,U3,U4,U5,U6]
                           refine tk_ (i := 20) (v := .bool false) rfl (Or.inl ⟨by kernel_rfl, fun w' hw' => by clear hw'; go_simp⟩) hH ?_
                           simp only [Act.put, U1,U2,U3,U4,U5,U6]
                           refine tk_ (i := 21) (v := undef) rfl (Or.inr ⟨by kernel_rfl, rfl⟩) hH ?_
                           simp only [Act.put, U1,U2,U3,U4,U5,U6]
                           refine tk_ (i := 22) (v := undef) rfl (Or.inr ⟨by kernel_rfl, rfl⟩) hH ?_
                           simp only [Act.put, U1,U2,U3,U4,U5,U6]
                           refine tk_ (i := 23) (v := undef) rfl (Or.inr ⟨by kernel_rfl, rfl⟩) hH ?_
                           simp only [Act.put, U1,U2,U3,U4,U5,U6]
                           refine tk_ (i := 24) (v := undef) rfl (Or.inr ⟨by kernel_rfl, rfl⟩) hH ?_
                           simp only [Act.put, U1,U2,U3,U4,U5,U6]
                           refine tk_ (i := 25) (v := .bool false) rfl (Or.inl ⟨by kernel_rfl, fun w' _ => by kernel_rfl⟩) hH ?_
                           simp only [Act.put, U1,U2,U3,U4,U5,U6]
                           refine tk_ (i := 26) (v := .bool false) rfl (Or.inl ⟨by kernel_rfl, fun w' _ => by kernel_rfl⟩) hH ?_
                           simp only [Act.put, U1,U2,U3,U4,U5,U6]
                           refine wpAnyH_done (by kernel_rfl) ?_ _
                           try simp only [Act.put, U1,U2,U3,U4,U5,U6]
                           go_wp2_with fail
                           go_roundw
                           case rel => exact ⟨m + 1, E, by omega, by go_num, HI3, hH.1⟩
                           case measure => simp [intOf]; omega
                         ·
                          as_aux_lemma =>
                           try simp only [Act.put]
                           refine wp_region_held_drew (S := fun W => LW w1 W bw jp5 p gs kb S' J' E ∧ Row W ib 44 (It.cells ⟨2, stubS (E m), en0⟩).toList ∧ Row W sk 42 (stubS (E m)).cells.toList) (by kernel_rfl) (⟨H15.out.drew, R15.out, RS15.out⟩) (fun hH => ?_)
                           refine tk_ (i := 0) (v := .pointer (some ⟨ib, 0, none⟩)) rfl (Or.inl ⟨by rfl, fun w' hw' => by clear hw'; go_simp⟩) hH ?_
                           simp only [Act.put, U1, U3, U4, U5, U6]
                           refine tk_ (i := 1) (v := .int .i64 2) rfl (Or.inl ⟨by rfl, fun w' hw' => by have h := hw'.2.1.at_ 0 (.int .i64 2) rfl; go_simp⟩) hH ?_
                           simp only [Act.put, U1,U2,U3,U4,U5,U6]
                           refine tk_ (i := 2) (v := .bool false) rfl (Or.inl ⟨by rfl, fun w' hw' => by clear hw'; go_simp⟩) hH ?_
                           simp only [Act.put, U1,U2,U3,U4,U5,U6]
                           refine tk_ (i := 3) (v := .bool false) rfl (Or.inl ⟨by rfl, fun w' hw' => by clear hw'; go_simp⟩) hH ?_
                           simp only [Act.put, U1,U2,U3,U4,U5,U6]
                           refine tk_ (i := 4) (v := .pointer (some ⟨ib, 0, none⟩)) rfl (Or.inl ⟨by kernel_rfl, fun w' hw' => by clear hw'; go_simp⟩) hH ?_
                           simp only [Act.put, U1,U2,U3,U4,U5,U6]
                           refine tk_ (i := 5) (v := .int .i64 2) rfl (Or.inl ⟨by kernel_rfl, fun w' hw' => by have h := hw'.2.1.at_ 0 (.int .i64 2) rfl; go_simp⟩) hH ?_
                           simp only [Act.put, U1,U2,U3,U4,U5,U6]
                           refine tk_ (i := 6) (v := .bool false) rfl (Or.inl ⟨by kernel_rfl, fun w' hw' => by clear hw'; go_simp⟩) hH ?_
                           simp only [Act.put, U1,U2,U3,U4,U5,U6]
                           refine tk_ (i := 7) (v := .bool false) rfl (Or.inl ⟨by kernel_rfl, fun w' hw' => by clear hw'; go_simp⟩) hH ?_
                           simp only [Act.put, U1,U2,U3,U4,U5,U6]
                           refine tk_ (i := 8) (v := undef) rfl (Or.inr ⟨by kernel_rfl, rfl⟩) hH ?_
                           simp only [Act.put, U1,U2,U3,U4,U5,U6]
                           refine tk_ (i := 9) (v := undef) rfl (Or.inr ⟨by kernel_rfl, rfl⟩) hH ?_
                           simp only [Act.put, U1,U2,U3,U4,U5,U6]
                           refine tk_ (i := 10) (v := undef) rfl (Or.inr ⟨by kernel_rfl, rfl⟩) hH ?_
                           simp only [Act.put, U1,U2,U3,U4,U5,U6]
                           refine tk_ (i := 11) (v := undef) rfl (Or.inr ⟨by kernel_rfl, rfl⟩) hH ?_
                           simp only [Act.put, U1,U2,U3,U4,U5,U6]
                           refine tk_ (i := 12) (v := undef) rfl (Or.inr ⟨by kernel_rfl, rfl⟩) hH ?_
                           simp only [Act.put, U1,U2,U3,U4,U5,U6]
                           refine tk_ (i := 13) (v := undef) rfl (Or.inr ⟨by kernel_rfl, rfl⟩) hH ?_
                           simp only [Act.put, U1,U2,U3,U4,U5,U6]
                           refine tk_ (i := 14) (v := .bool false) rfl (Or.inl ⟨by kernel_rfl, fun w' _ => by kernel_rfl⟩) hH ?_
                           simp only [Act.put, U1,U2,U3,U4,U5,U6]
                           refine tk_ (i := 15) (v := .bool false) rfl (Or.inl ⟨by kernel_rfl, fun w' _ => by kernel_rfl⟩) hH ?_
                           simp only [Act.put, U1,U2,U3,U4,U5,U6]
                           refine tk_ (i := 16) (v := .bool false) rfl (Or.inl ⟨by kernel_rfl, fun w' _ => by kernel_rfl⟩) hH ?_
                           simp only [Act.put, U1,U2,U3,U4,U5,U6]
                           refine tk_ (i := 17) (v := .pointer (some ⟨ib, 0, none⟩)) rfl (Or.inl ⟨by kernel_rfl, fun w' hw' => by clear hw'; go_simp⟩) hH ?_
                           simp only [Act.put, U1,U2,U3,U4,U5,U6]
                           refine tk_ (i := 18) (v := .int .i64 2) rfl (Or.inl ⟨by kernel_rfl, fun w' hw' => by have h := hw'.2.1.at_ 0 (.int .i64 2) rfl; go_simp⟩) hH ?_
                           simp only [Act.put, U1,U2,U3,U4,U5,U6]
                           refine tk_ (i := 19) (v := .bool true) rfl (Or.inl ⟨by kernel_rfl, fun w' hw' => by clear hw'; go_simp⟩) hH ?_
                           simp only [Act.put, U1,U2,U3,U4,U5,U6]
                           refine tk_ (i := 20) (v := .bool true) rfl (Or.inl ⟨by kernel_rfl, fun w' hw' => by clear hw'; go_simp⟩) hH ?_
                           simp only [Act.put, U1,U2,U3,U4,U5,U6]
                           refine tk_ (i := 21) (v := .pointer (some ⟨ib, 1, none⟩)) rfl (Or.inl ⟨by kernel_rfl, fun w' hw' => by clear hw'; go_simp⟩) hH ?_
                           simp only [Act.put, U1,U2,U3,U4,U5,U6]
                           refine tk_ (i := 22) (v := .agg (stubS (E m)).cells) rfl ?_ hH ?_
                           ·
                            refine yieldsIf_load_mid ?_ 42 (.tmp 189) ?_ ib (1) ?_ _ _ (fun W hW => it_stub hW.2.1) Tryd.underlying42 rfl stSize13
                            all_goals kernel_rfl
                           simp only [Act.put, U1,U2,U3,U4,U5,U6]
                           refine tk_ (i := 23) (v := .agg (stubS (E m)).cells) rfl ?_ hH ?_
                           ·
                            refine yieldsIf_load_mid ?_ 42 (.tmp 12) ?_ sk (0) ?_ _ _ (fun W hW => row_range0 hW.2.2) Tryd.underlying42 rfl stSize13
                            all_goals kernel_rfl
                           simp only [Act.put, U1,U2,U3,U4,U5,U6]
                           refine tk_ (i := 24) (v := .bool (!true)) rfl (yields_nes (by kernel_rfl) (stubS (E m)) (stubS (E m)) true (hid (by simp)) (.tmp 190) (.tmp 191) _ rfl (by kernel_rfl) (by kernel_rfl)) hH ?_
                           simp only [Act.put, U1,U2,U3,U4,U5,U6]
                           refine tk_ (i := 25) (v := .bool false) rfl (Or.inl ⟨by kernel_rfl, fun w' _ => by kernel_rfl⟩) hH ?_
                           simp only [Act.put, U1,U2,U3,U4,U5,U6]
                           refine tk_ (i := 26) (v := .bool false) rfl (Or.inl ⟨by kernel_rfl, fun w' _ => by kernel_rfl⟩) hH ?_
                           simp only [Act.put, U1,U2,U3,U4,U5,U6]
                           refine wpAnyH_done (by kernel_rfl) ?_ _
                           try simp only [Act.put, U1,U2,U3,U4,U5,U6]
                           go_wp2_with fail
                           go_roundw
                           case rel => exact ⟨m + 1, E, by omega, by go_num, HI3, hH.1⟩
                           case measure => simp [intOf]; omega
                         ·
                          as_aux_lemma =>
                           try simp only [Act.put]
                           refine wp_region_held_drew (S := fun W => LW w1 W bw jp5 p gs kb S' J' E ∧ Row W ib 44 (It.cells ⟨3, st0, en0⟩).toList ∧ Row W sk 42 (stubS (E m)).cells.toList) (by kernel_rfl) (⟨H15.out.drew, R15.out, RS15.out⟩) (fun hH => ?_)
                           refine tk_ (i := 0) (v := .pointer (some ⟨ib, 0, none⟩)) rfl (Or.inl ⟨by rfl, fun w' hw' => by clear hw'; go_simp⟩) hH ?_
                           simp only [Act.put, U1, U3, U4, U5, U6]
                           refine tk_ (i := 1) (v := .int .i64 3) rfl (Or.inl ⟨by rfl, fun w' hw' => by have h := hw'.2.1.at_ 0 (.int .i64 3) rfl; go_simp⟩) hH ?_
                           simp only [Act.put, U1,U2,U3,U4,U5,U6]
                           refine tk_ (i := 2) (v := .bool false) rfl (Or.inl ⟨by rfl, fun w' hw' => by clear hw'; go_simp⟩) hH ?_
                           simp only [Act.put, U1,U2,U3,U4,U5,U6]
                           refine tk_ (i := 3) (v := .bool false) rfl (Or.inl ⟨by rfl, fun w' hw' => by clear hw'; go_simp⟩) hH ?_
                           simp only [Act.put, U1,U2,U3,U4,U5,U6]
                           refine tk_ (i := 4) (v := .pointer (some ⟨ib, 0, none⟩)) rfl (Or.inl ⟨by kernel_rfl, fun w' hw' => by clear hw'; go_simp⟩) hH ?_
                           simp only [Act.put, U1,U2,U3,U4,U5,U6]
                           refine tk_ (i := 5) (v := .int .i64 3) rfl (Or.inl ⟨by kernel_rfl, fun w' hw' => by have h := hw'.2.1.at_ 0 (.int .i64 3) rfl; go_simp⟩) hH ?_
                           simp only [Act.put, U1,U2,U3,U4,U5,U6]
                           refine tk_ (i := 6) (v := .bool false) rfl (Or.inl ⟨by kernel_rfl, fun w' hw' => by clear hw'; go_simp⟩) hH ?_
                           simp only [Act.put, U1,U2,U3,U4,U5,U6]
                           refine tk_ (i := 7) (v := .bool false) rfl (Or.inl ⟨by kernel_rfl, fun w' hw' => by clear hw'; go_simp⟩) hH ?_
                           simp only [Act.put, U1,U2,U3,U4,U5,U6]
                           refine tk_ (i := 8) (v := undef) rfl (Or.inr ⟨by kernel_rfl, rfl⟩) hH ?_
                           simp only [Act.put, U1,U2,U3,U4,U5,U6]
                           refine tk_ (i := 9) (v := undef) rfl (Or.inr ⟨by kernel_rfl, rfl⟩) hH ?_
                           simp only [Act.put, U1,U2,U3,U4,U5,U6]
                           refine tk_ (i := 10) (v := undef) rfl (Or.inr ⟨by kernel_rfl, rfl⟩) hH ?_
                           simp only [Act.put, U1,U2,U3,U4,U5,U6]
                           refine tk_ (i := 11) (v := undef) rfl (Or.inr ⟨by kernel_rfl, rfl⟩) hH ?_
                           simp only [Act.put, U1,U2,U3,U4,U5,U6]
                           refine tk_ (i := 12) (v := undef) rfl (Or.inr ⟨by kernel_rfl, rfl⟩) hH ?_
                           simp only [Act.put, U1,U2,U3,U4,U5,U6]
                           refine tk_ (i := 13) (v := undef) rfl (Or.inr ⟨by kernel_rfl, rfl⟩) hH ?_
                           simp only [Act.put, U1,U2,U3,U4,U5,U6]
                           refine tk_ (i := 14) (v := .bool false) rfl (Or.inl ⟨by kernel_rfl, fun w' _ => by kernel_rfl⟩) hH ?_
                           simp only [Act.put, U1,U2,U3,U4,U5,U6]
                           refine tk_ (i := 15) (v := .bool false) rfl (Or.inl ⟨by kernel_rfl, fun w' _ => by kernel_rfl⟩) hH ?_
                           simp only [Act.put, U1,U2,U3,U4,U5,U6]
                           refine tk_ (i := 16) (v := .bool false) rfl (Or.inl ⟨by kernel_rfl, fun w' _ => by kernel_rfl⟩) hH ?_
                           simp only [Act.put, U1,U2,U3,U4,U5,U6]
                           refine tk_ (i := 17) (v := .pointer (some ⟨ib, 0, none⟩)) rfl (Or.inl ⟨by kernel_rfl, fun w' hw' => by clear hw'; go_simp⟩) hH ?_
                           simp only [Act.put, U1,U2,U3,U4,U5,U6]
                           refine tk_ (i := 18) (v := .int .i64 3) rfl (Or.inl ⟨by kernel_rfl, fun w' hw' => by have h := hw'.2.1.at_ 0 (.int .i64 3) rfl; go_simp⟩) hH ?_
                           simp only [Act.put, U1,U2,U3,U4,U5,U6]
                           refine tk_ (i := 19) (v := .bool false) rfl (Or.inl ⟨by kernel_rfl, fun w' hw' => by clear hw'; go_simp⟩) hH ?_
                           simp only [Act.put, U1,U2,U3,U4,U5,U6]
                           refine tk_ (i := 20) (v := .bool false) rfl (Or.inl ⟨by kernel_rfl, fun w' hw' => by clear hw'; go_simp⟩) hH ?_
                           simp only [Act.put, U1,U2,U3,U4,U5,U6]
                           refine tk_ (i := 21) (v := undef) rfl (Or.inr ⟨by kernel_rfl, rfl⟩) hH ?_
                           simp only [Act.put, U1,U2,U3,U4,U5,U6]
                           refine tk_ (i := 22) (v := undef) rfl (Or.inr ⟨by kernel_rfl, rfl⟩) hH ?_
                           simp only [Act.put, U1,U2,U3,U4,U5,U6]
                           refine tk_ (i := 23) (v := undef) rfl (Or.inr ⟨by kernel_rfl, rfl⟩) hH ?_
                           simp only [Act.put, U1,U2,U3,U4,U5,U6]
                           refine tk_ (i := 24) (v := undef) rfl (Or.inr ⟨by kernel_rfl, rfl⟩) hH ?_
                           simp only [Act.put, U1,U2,U3,U4,U5,U6]
                           refine tk_ (i := 25) (v := .bool false) rfl (Or.inl ⟨by kernel_rfl, fun w' _ => by kernel_rfl⟩) hH ?_
                           simp only [Act.put, U1,U2,U3,U4,U5,U6]
                           refine tk_ (i := 26) (v := .bool false) rfl (Or.inl ⟨by kernel_rfl, fun w' _ => by kernel_rfl⟩) hH ?_
                           simp only [Act.put, U1,U2,U3,U4,U5,U6]
                           refine wpAnyH_done (by kernel_rfl) ?_ _
                           try simp only [Act.put, U1,U2,U3,U4,U5,U6]
                           go_wp2_with fail
                           go_roundw
                           case rel => exact ⟨m + 1, E, by omega, by go_num, HI3, hH.1⟩
                           case measure => simp [intOf]; omega
                   ·
                    have hml : ¬ (m : Int) < 8 := by omega
                    go_wp2_with fail
                    go_roundw
                    case rel => exact ⟨k + 1, ⟨S', some J', J'.c⟩, E, by omega, by omega, by go_num, HI3, by have h1 : S'.count ≤ _ + 32 := HCN.out; have h2 : _ ≤ 17 + 32 * k := HCC.out; show S'.count ≤ 17 + 32 * (k + 1); exact Nat.le_trans h1 (by omega), ⟨HBW.out, by simpa using HBK.out, jp5, HQ.out.1, HQ.out.2.1⟩, HQ.out.2.2⟩
                    case measure => simp [intOf]; omega

    ·
     have hb : (k : Int) < (XS.length : Int) := by omega
     have hb5 : ¬ (k : Int) < 50 := by omega
     clear HXS1 HRD1
     go_wp2_with fail
     go_ret
     exact ⟨rfl, B1.out.trans (HJ.out.below.mono B1.out.size)⟩
   ·
    have hb : ¬ (k : Int) < (XS.length : Int) := by omega
    clear HXS1 HRD1
    go_wp2_with fail
    go_ret
    exact ⟨rfl, B1.out.trans (HJ.out.below.mono B1.out.size)⟩
end Go.Proofs.YtafbeepacncooaaDoor
