/-
  The walk of the law JournalClean.
-/
import Derived.Test.YtafbeepacncooaaDoorKs0
namespace Go.Proofs.YtafbeepacncooaaDoor
open Go.RowKit
set_option maxRecDepth 10000

theorem yields_nee {ops : Array Oper} {S : World → Prop} {o : Oper} {a : Act} (hw : Region.wanted o (yielded ops a.tmps) = true) (s t : En) (b : Bool) (hb : Hid (b = true ↔ s = t)) (x y : Operand) (ty : TypeId) (ho : o.op = .binOp .neq 28 x y ty)
    (hx : a.eval x = .agg s.cells) (hy : a.eval y = .agg t.cells) : YieldsIf Tryd.prog ops S o (.bool (!b)) a :=
  .inl ⟨hw, fun w _ => by
    have hEG := egEn
    have hE := eqEn2 9998 s t b hb.out w
    generalize s.cells = Z at *
    generalize t.cells = Y at *
    unfold execOp
    simp [ho, hx, hy, eqGuard, hEG, binOp, Op.equal, Op.maxDepth, hE, Result.andThen]⟩
theorem act_one (x : ActJ) (A : Option Addr) (l cap : Nat) : (actC x A l cap).all (·.oneCell') = true := by simp [actC, En.cells, Value.oneCell']
theorem clean_put_item {S : Sp} {J : Jn} {c : Int} {x : ActJ} (hw : JWf J) (k1 : x.kind = 1) (hy : (doesJ ⟨S, some J, c⟩ x).2 = 0) {S' : Sp} {J' : Jn} {c' : Int} (hv : (doesJ ⟨S, some J, c⟩ x).1 = ⟨S', some J', c'⟩) : (J'.item x.e.opn).entry = x.e := by
  have e1 : rawJ ⟨S, some J, c⟩ x = (⟨(putJ S J x.e).1, some (putJ S J x.e).2.1, c⟩, (putJ S J x.e).2.2) := by
    unfold rawJ callJ
    rw [if_neg (by omega), if_neg (by omega), if_neg (by omega), if_neg (by omega)]
    simp only
    rw [if_pos k1]
  have hy : (rawJ ⟨S, some J, c⟩ x).2 = 0 := hy
  have hv : fixJ (rawJ ⟨S, some J, c⟩ x).1 = ⟨S', some J', c'⟩ := hv
  rw [e1] at hy hv
  obtain ⟨_, _, _, hi⟩ := put_item hw hy
  unfold fixJ at hv
  have hv2 := congrArg Wd.j hv
  simp only at hv2
  split at hv2
  · cases hv2
    rw [hi]
  · cases hv2
set_option maxHeartbeats 8000000 in
theorem clean_law13 (A : Option Addr) (l cap : Nat) (XS : List Ac) (w : World) (hl : l = XS.length) (hl2 : l ≤ 9223372036854775807) (hXS : ∀ X ∈ XS, ActOk X.x w X.A X.x.picks.length) (hrd : Rd w w.heap.size A (XS.map Ac.cells).flatten) (hf : Fd w) :
    Calls Tryd.prog 4 #[.slice A l cap] w (Yes w) := by
  subst hl
  obtain ⟨SF, S0, X0, e1, e2, c1, z0, c0, _, i1, _⟩ := begin13
  have HA := hid (fun W (hW : Fd W) => awake13_any W hW)
  have HB : Hid (∀ W, Fd W → Calls Tryd.prog 8 #[] W fun e w' => ∃ bw p gs, e = .returned (.pointer (some ⟨bw, 0, none⟩)) ∧ Wj W w' bw p gs ⟨S0, some ⟨0, X0⟩, 0⟩ []) := hid fun W hW => begin13_any e1 e2 c1 W hW
  have HI1 := hid i1
  have HC0 := hid c0
  have HXS := hid hXS
  have HRD := hid hrd
  have HL2 := hid hl2
  have HF := hid hf
  clear e1 e2 c1 z0 c0 i1 hXS hrd hf hl2
  go_enter Tryd.func4, Tryd.ntmps4
  go_wp2_with (first
    | (go_at_call 7; refine (HA.out _ HF.out).mono ?_; rintro e w1 ⟨rfl, hb⟩; have B1 := hid hb; clear hb)
    | (go_at_call 8; refine (HB.out _ (HF.out.below B1.out HF.out.1)).mono ?_; rintro e w2 ⟨bw, p, gs, rfl, q⟩; have H2 := hid q; clear q))
  have HXS1 : Hid (∀ X ∈ XS, ActOk X.x w1 X.A X.x.picks.length) := hid fun X hX => (HXS.out X hX).below B1.out
  have HRD1 : Hid (∀ W, Below w1.heap.size w1 W → ∀ k (hk : k < XS.length), ∃ g o, A = some ⟨g, o, none⟩ ∧ W.rangeAt g (o + k * 15) XS[k].cells) := hid fun W hb k hk => acts_range HRD.out (B1.out.trans (hb.mono B1.out.size)) hk
  clear HXS HRD
  go_loopw [4] (fun i wr => ∃ (k : Nat) (v : Wd), k ≤ XS.length ∧ k ≤ 50 ∧ i = .int .i64 k ∧ Hid (InvW HereC GoneC v) ∧ v.S.count ≤ 17 + 32 * k ∧ Wj w1 wr bw p gs v []) (fun i _ => 50 - (intOf i).toNat)
  case atStart => exact ⟨0, _, by omega, by omega, rfl, HI1, by have := HC0.out; show S0.count ≤ _; omega, H2.out⟩
  case round =>
    obtain ⟨k, v, hk, hk5, rfl, hi, hc, hj⟩ := hrel
    have HJ := hid hj
    have hl3 := HL2.out
    by_cases hlt : k < XS.length
    · by_cases hlt5 : k < 50
      · have hb : (k : Int) < (XS.length : Int) := by omega
        have hb5 : (k : Int) < 50 := by omega
        have hok := HXS1.out _ (List.getElem_mem hlt)
        obtain ⟨g, o, rfl, hrg⟩ := HRD1.out wr hj.below k hlt
        have HRG := hid hrg
        have HFA : Hid (∀ W, Calls Tryd.prog 9 #[.agg (actC XS[k].x XS[k].A XS[k].x.picks.length XS[k].cap)] W fun e w' => e = .returned (.bool (decide (1000 < (XS[k].x.e.body.size : Int)))) ∧ Below W.heap.size W w') := hid fun W => far_any _ _ _ _ W
        have HOK := hid hok
        have HCC := hid hc
        have HIV := hid hi.out
        clear hi hc hok hrg HXS1 HRD1 hk hk5
        obtain ⟨C, hC⟩ : ∃ C, C = actC XS[k].x XS[k].A XS[k].x.picks.length XS[k].cap := ⟨_, rfl⟩
        have HRG2 : Hid (wr.rangeAt g (o + k * 15) C.toList) := hid (by rw [hC]; exact HRG.out)
        have HCS : Hid (C.size = 15) := hid (by rw [hC]; rfl)
        have HCO : Hid (C.all (·.oneCell') = true) := hid (by rw [hC]; exact act_one _ _ _ _)
        have HDO : Hid (XS[k].x.kind ≠ 9 → ∀ W (Y : List Nat), Wj w1 W bw p gs v Y → Calls Tryd.prog 11 #[.pointer (some ⟨bw, 0, none⟩), .agg C] W (WC w1 W bw p gs (doesJ v XS[k].x).1 Y (doesJ v XS[k].x).2)) := hid fun h9 W Y hW => by
          rw [hC]
          exact does_any13 hW (step_c XS[k].x v.c HOK.out.e h9) HIV.out _ HOK.out (by have := HCC.out; omega)
        have HK0 : Hid (∀ W g, Row W g 32 C.toList → W.cell? ⟨g, 0, none⟩ = some (.int .i64 XS[k].x.kind) ∧ W.cell? ⟨g, 2, none⟩ = some (.int .i64 XS[k].x.e.opn) ∧ W.rangeAt g 1 XS[k].x.e.cells.toList) := hid fun W g hr => by
          rw [hC] at hr
          exact ⟨hr.at_ 0 _ rfl, hr.at_ 2 _ rfl, act_ent hr⟩
        rw [← hC] at HFA
        clear hC HRG
        generalize XS[k].x = x at *
        generalize hxb : wr.heap.size = xb at *
        have HXB := hid hxb
        have HXL : Hid (w1.heap.size ≤ xb) := hid (by rw [← hxb]; exact hj.below.size)
        clear hj
        by_cases hfar : 1000 < (x.e.body.size : Int)
        · rw [decide_eq_true hfar] at HFA
          clear hfar HDO
          go_wp2_with (first
            | ((with_reducible show wpList _ _ _ ({ dst := some 30, op := _, type := _, pos := _, after := _, guard := _ } :: _) _ _); refine wpl_load_midw rfl 32 (.tmp 29) rfl g (o + k * 15) rfl C.toList _ HRG2.out Tryd.underlying32 rfl (by rw [Array.length_toList, HCS.out]; exact actSize) ?_)
            | ((with_reducible show wpList _ _ _ ({ dst := none, op := .store _ (.tmp 5) _, type := _, pos := _, after := _, guard := _ } :: _) _ _); refine wpl_store_st rfl (.tmp 5) (.tmp 30) rfl (n := 15) actSize xb (actC ⟨0, en0, 0, 0, 0, 0, []⟩ none 0 0) C rfl rfl (by rw [← HXB.out]; exact Row.new _ _ _) ?_ (hid rfl) HCS HCO; intro w3 hr3 hg3; have b3 : Below wr.heap.size wr w3 := ((Below.refl wr.heap.size wr).alloc (Nat.le_refl _) _).trans (below_grown hg3 (by rw [HXB.out]; exact Nat.le_refl _) (by simp)); have H3 := hid (HJ.out.add b3 (g := xb) (by rw [HXB.out]; exact Nat.le_refl _) hr3.lt); have R3 := hid hr3; clear hr3 hg3 b3)
            | ((with_reducible show wpList _ _ _ ({ dst := some 31, op := _, type := _, pos := _, after := _, guard := _ } :: _) _ _); refine wpList_load_row rfl 32 (.tmp 5) rfl xb rfl 32 C (0, 0) _ R3.out.arr Tryd.underlying32 rfl (by rw [HCS.out]; exact actSize) ?_)
            | (go_at_call 9; refine (HFA.out _).mono ?_; rintro e w4 ⟨rfl, hb4⟩; have H4 := hid (H3.out.new hb4).1; have R4 := hid ((H3.out.new hb4).2.row R3.out (by simp)); have ca0 := (HK0.out _ _ R4.out).1; clear hb4))
          go_roundw
          case rel => exact ⟨k + 1, v, by omega, by omega, by go_num, HIV, by have := HCC.out; omega, H4.out.tail⟩
          case measure => simp [intOf]; omega
        · rw [decide_eq_false hfar] at HFA
          clear hfar
          by_cases h9 : x.kind = 9
          · rw [h9] at HK0
            clear HDO
            go_wp2_with (first
              | ((with_reducible show wpList _ _ _ ({ dst := some 30, op := _, type := _, pos := _, after := _, guard := _ } :: _) _ _); refine wpl_load_midw rfl 32 (.tmp 29) rfl g (o + k * 15) rfl C.toList _ HRG2.out Tryd.underlying32 rfl (by rw [Array.length_toList, HCS.out]; exact actSize) ?_)
              | ((with_reducible show wpList _ _ _ ({ dst := none, op := .store _ (.tmp 5) _, type := _, pos := _, after := _, guard := _ } :: _) _ _); refine wpl_store_st rfl (.tmp 5) (.tmp 30) rfl (n := 15) actSize xb (actC ⟨0, en0, 0, 0, 0, 0, []⟩ none 0 0) C rfl rfl (by rw [← HXB.out]; exact Row.new _ _ _) ?_ (hid rfl) HCS HCO; intro w3 hr3 hg3; have b3 : Below wr.heap.size wr w3 := ((Below.refl wr.heap.size wr).alloc (Nat.le_refl _) _).trans (below_grown hg3 (by rw [HXB.out]; exact Nat.le_refl _) (by simp)); have H3 := hid (HJ.out.add b3 (g := xb) (by rw [HXB.out]; exact Nat.le_refl _) hr3.lt); have R3 := hid hr3; clear hr3 hg3 b3)
              | ((with_reducible show wpList _ _ _ ({ dst := some 31, op := _, type := _, pos := _, after := _, guard := _ } :: _) _ _); refine wpList_load_row rfl 32 (.tmp 5) rfl xb rfl 32 C (0, 0) _ R3.out.arr Tryd.underlying32 rfl (by rw [HCS.out]; exact actSize) ?_)
              | (go_at_call 9; refine (HFA.out _).mono ?_; rintro e w4 ⟨rfl, hb4⟩; have H4 := hid (H3.out.new hb4).1; have R4 := hid ((H3.out.new hb4).2.row R3.out (by simp)); have ca0 := (HK0.out _ _ R4.out).1; clear hb4))
            go_roundw
            case rel => exact ⟨k + 1, v, by omega, by omega, by go_num, HIV, by have := HCC.out; omega, H4.out.tail⟩
            case measure => simp [intOf]; omega
          · have HD9 := hid (HDO.out h9)
            have hst := step_c x v.c HOK.out.e h9
            have HNX := hid (does_inv hst HIV.out)
            have hcn := doesJ_count (v := v) (fun J hJ => by
              obtain ⟨S, j, c⟩ := v
              have hJ : j = some J := hJ
              subst hJ
              exact hst.wf HIV.out.2) x
            have HCN := hid hcn
            have h9b : (x.kind == 9) = false := by simpa using h9
            clear HDO hst hcn
            obtain ⟨S, j, c⟩ := v
            cases j with
            | none =>
              generalize hdj : doesJ ⟨S, none, c⟩ x = R at *
              have HDJ := hid hdj
              clear hdj
              obtain ⟨v', y⟩ := R
              simp only at HNX HCN HD9
              have h9c := hid h9b
              clear h9b h9
              obtain ⟨S', j', c'⟩ := v'
              cases j' with
              | none =>
                have h9b := h9c.out
                go_wp2_with (first
                  | ((with_reducible show wpList _ _ _ ({ dst := some 30, op := _, type := _, pos := _, after := _, guard := _ } :: _) _ _); refine wpl_load_midw rfl 32 (.tmp 29) rfl g (o + k * 15) rfl C.toList _ HRG2.out Tryd.underlying32 rfl (by rw [Array.length_toList, HCS.out]; exact actSize) ?_)
                  | ((with_reducible show wpList _ _ _ ({ dst := none, op := .store _ (.tmp 5) _, type := _, pos := _, after := _, guard := _ } :: _) _ _); refine wpl_store_st rfl (.tmp 5) (.tmp 30) rfl (n := 15) actSize xb (actC ⟨0, en0, 0, 0, 0, 0, []⟩ none 0 0) C rfl rfl (by rw [← HXB.out]; exact Row.new _ _ _) ?_ (hid rfl) HCS HCO; intro w3 hr3 hg3; have b3 : Below wr.heap.size wr w3 := ((Below.refl wr.heap.size wr).alloc (Nat.le_refl _) _).trans (below_grown hg3 (by rw [HXB.out]; exact Nat.le_refl _) (by simp)); have H3 := hid (HJ.out.add b3 (g := xb) (by rw [HXB.out]; exact Nat.le_refl _) hr3.lt); have R3 := hid hr3; clear hr3 hg3 b3)
                  | ((with_reducible show wpList _ _ _ ({ dst := some 31, op := _, type := _, pos := _, after := _, guard := _ } :: _) _ _); refine wpList_load_row rfl 32 (.tmp 5) rfl xb rfl 32 C (0, 0) _ R3.out.arr Tryd.underlying32 rfl (by rw [HCS.out]; exact actSize) ?_)
                  | (go_at_call 9; refine (HFA.out _).mono ?_; rintro e w4 ⟨rfl, hb4⟩; have H4 := hid (H3.out.new hb4).1; have R4 := hid ((H3.out.new hb4).2.row R3.out (by simp)); have ca0 := (HK0.out _ _ R4.out).1; obtain ⟨_, _, hD4, hr4⟩ := H4.out; have cb1 : w4.cell? ⟨bw, 1, none⟩ = some (.pointer none) := hr4.at_ 1 _ rfl; clear hD4 hr4; clear hb4)
                  | ((with_reducible show wpList _ _ _ ({ dst := some 44, op := _, type := _, pos := _, after := _, guard := _ } :: _) _ _); refine wpList_load_row rfl 32 (.tmp 5) rfl xb rfl 32 C (0, 0) _ R4.out.arr Tryd.underlying32 rfl (by rw [HCS.out]; exact actSize) ?_)
                  | (go_at_call 11; refine (HD9.out _ _ H4.out).mono ?_; rintro e w5 ⟨rfl, q, k5⟩; have H5 := hid q; have R5 := hid (k5.row R4.out (by simp)); obtain ⟨_, _, hD5, hr5⟩ := H5.out; have cb1 : w5.cell? ⟨bw, 1, none⟩ = some (.pointer none) := hr5.at_ 1 _ rfl; clear hD5 hr5; clear q k5))
                go_roundw
                case rel => exact ⟨k + 1, ⟨S', none, c'⟩, by omega, by omega, by go_num, HNX, by have h1 : S'.count ≤ _ + 32 := HCN.out; have h2 : _ ≤ 17 + 32 * k := HCC.out; show S'.count ≤ 17 + 32 * (k + 1); exact Nat.le_trans h1 (by omega), H5.out.tail⟩
                case measure => simp [intOf]; omega
              | some J' =>
                obtain ⟨hcj, hhc⟩ := HNX.out
                have hcj : c' = J'.c := hcj
                have hhc : HereC S' J' := hhc
                subst hcj
                have HW := hid hhc.wf
                have HRE := hid (fun n => clean_read hhc n)
                have hc0 := hhc.wf.c0
                have hc1 := hhc.wf.c1
                have HCB := hid (And.intro hc0 hc1)
                have hcnt : S'.count ≤ 900000 := by have h1 : S'.count ≤ S.count + 32 := HCN.out; have h2 : S.count ≤ 17 + 32 * k := HCC.out; omega
                have HIT : Hid (∀ W jp (Y : List Nat), Jd w1 W jp p gs S' J' Y → ∀ n, Calls Tryd.prog 12 #[.pointer (some ⟨jp, 0, none⟩), .int .i64 n] W (VE W (.agg (J'.item n).cells))) := hid fun W jp Y hW n => item_any13 hW HW.out n
                have HRR : Hid (∀ W jp (Y : List Nat), Jd w1 W jp p gs S' J' Y → ∀ n, Calls Tryd.prog 14 #[.pointer (some ⟨jp, 0, none⟩), .int .i64 n] W (JC w1 W jp p gs S' (readJn S' J' n).1 Y (.tuple #[.agg (readJn S' J' n).2.1.cells, .int .i64 (readJn S' J' n).2.2]))) := hid fun W jp Y hW n => read_any13 hW HW.out n hcnt
                have ec1 : IntKind.i64.wrap (J'.c + 1) = J'.c + 1 := w64 (by omega) (by omega)
                have ec8 : IntKind.i64.wrap (J'.c + 8) = J'.c + 8 := w64 (by omega) (by omega)
                clear hhc hcnt hc0 hc1
                have h9b := h9c.out
                go_wp2_with (first
                  | ((with_reducible show wpList _ _ _ ({ dst := some 30, op := _, type := _, pos := _, after := _, guard := _ } :: _) _ _); refine wpl_load_midw rfl 32 (.tmp 29) rfl g (o + k * 15) rfl C.toList _ HRG2.out Tryd.underlying32 rfl (by rw [Array.length_toList, HCS.out]; exact actSize) ?_)
                  | ((with_reducible show wpList _ _ _ ({ dst := none, op := .store _ (.tmp 5) _, type := _, pos := _, after := _, guard := _ } :: _) _ _); refine wpl_store_st rfl (.tmp 5) (.tmp 30) rfl (n := 15) actSize xb (actC ⟨0, en0, 0, 0, 0, 0, []⟩ none 0 0) C rfl rfl (by rw [← HXB.out]; exact Row.new _ _ _) ?_ (hid rfl) HCS HCO; intro w3 hr3 hg3; have b3 : Below wr.heap.size wr w3 := ((Below.refl wr.heap.size wr).alloc (Nat.le_refl _) _).trans (below_grown hg3 (by rw [HXB.out]; exact Nat.le_refl _) (by simp)); have H3 := hid (HJ.out.add b3 (g := xb) (by rw [HXB.out]; exact Nat.le_refl _) hr3.lt); have R3 := hid hr3; clear hr3 hg3 b3)
                  | ((with_reducible show wpList _ _ _ ({ dst := some 31, op := _, type := _, pos := _, after := _, guard := _ } :: _) _ _); refine wpList_load_row rfl 32 (.tmp 5) rfl xb rfl 32 C (0, 0) _ R3.out.arr Tryd.underlying32 rfl (by rw [HCS.out]; exact actSize) ?_)
                  | (go_at_call 9; refine (HFA.out _).mono ?_; rintro e w4 ⟨rfl, hb4⟩; have H4 := hid (H3.out.new hb4).1; have R4 := hid ((H3.out.new hb4).2.row R3.out (by simp)); have ca0 := (HK0.out _ _ R4.out).1; obtain ⟨_, _, hD4, hr4⟩ := H4.out; have cb1 : w4.cell? ⟨bw, 1, none⟩ = some (.pointer none) := hr4.at_ 1 _ rfl; clear hD4 hr4; clear hb4)
                  | ((with_reducible show wpList _ _ _ ({ dst := some 44, op := _, type := _, pos := _, after := _, guard := _ } :: _) _ _); refine wpList_load_row rfl 32 (.tmp 5) rfl xb rfl 32 C (0, 0) _ R4.out.arr Tryd.underlying32 rfl (by rw [HCS.out]; exact actSize) ?_)
                  | (go_at_call 11; refine (HD9.out _ _ H4.out).mono ?_; rintro e w5 ⟨rfl, q, k5⟩; have H5 := hid q; have R5 := hid (k5.row R4.out (by simp)); obtain ⟨hbw5, _, jp5, hD5, hr5⟩ := H5.out; have cb1 : w5.cell? ⟨bw, 1, none⟩ = some (.pointer (some ⟨jp5, 0, none⟩)) := hr5.at_ 1 _ rfl; have cb2 : w5.cell? ⟨bw, 2, none⟩ = some (.int .i64 J'.c) := hr5.at_ 2 _ rfl; have J5 := hid hD5; have Z5 := hid hr5; have HBW := hid hbw5; clear hD5 hr5; clear q k5))
                go_loopw [8] (fun i wr => ∃ m : Nat, m ≤ 8 ∧ i = .int .i64 (J'.c + 1 + (m : Int)) ∧ Jd w1 wr jp5 p gs S' J' [bw, xb] ∧ Row wr bw 37 (wC p (some jp5) J'.c) ∧ Row wr xb 32 C.toList) (fun i _ => (J'.c + 9 - intOf i).toNat)
                case atStart => exact ⟨0, by omega, by simp, J5.out, Z5.out, R5.out⟩
                case round =>
                  obtain ⟨m, hm, rfl, hq, hr, hx⟩ := hrel
                  have HQ := hid hq
                  have HR := hid hr
                  have HX := hid hx
                  obtain ⟨b1, b2⟩ := HCB.out
                  have cr1 : wr.cell? ⟨bw, 1, none⟩ = some (.pointer (some ⟨jp5, 0, none⟩)) := hr.at_ 1 _ rfl
                  have cr2 : wr.cell? ⟨bw, 2, none⟩ = some (.int .i64 J'.c) := hr.at_ 2 _ rfl
                  obtain ⟨n, hn⟩ : ∃ n, n = J'.c + 1 + (m : Int) := ⟨_, rfl⟩
                  rw [← hn]
                  by_cases hlm : m < 8
                  · have hle : n ≤ J'.c + 8 := by omega
                    have en : IntKind.i64.wrap (n + 1) = n + 1 := w64 (by omega) (by omega)
                    obtain ⟨ze, zy, er, hz⟩ := HRE.out n
                    obtain ⟨z1, z2, z3⟩ := hz ⟨by omega, hle⟩
                    have HIA := hid (fun W jp (Y : List Nat) (hW : Jd w1 W jp p gs S' J' Y) => HIT.out W jp Y hW n)
                    have HRA : Hid (∀ W jp (Y : List Nat), Jd w1 W jp p gs S' J' Y → Calls Tryd.prog 14 #[.pointer (some ⟨jp, 0, none⟩), .int .i64 n] W (JC w1 W jp p gs S' J' Y (.tuple #[.agg (J'.item n).entry.cells, .int .i64 zy]))) := hid fun W jp Y hW => by
                      have := HRR.out W jp Y hW n
                      rw [er, z3] at this
                      exact this
                    have HOI := hid (itC_one (J'.item n))
                    have HOE := hid (ecells_one (J'.item n).entry)
                    have HN := hid hn
                    generalize J'.item n = x2 at *
                    clear hq hr hx er z3 hn hz
                    by_cases hk1 : x2.kind = 1
                    · have hzy : zy = 0 := z2.2 hk1
                      subst hzy
                      have HKK := hid hk1
                      clear z1 z2 HRE HIT HRR hk1
                      go_wp2_with (first
                        | (go_at_call 12; refine (HIA.out _ _ _ HQ.out).mono ?_; rintro e w6 ⟨rfl, hb6⟩; have Q6 := hid (HQ.out.new hb6).1; have P6 := hid (HR.out.below hb6 HR.out.lt); have X6 := hid (HX.out.below hb6 HX.out.lt); clear hb6)
                        | (refine wpl_store_st rfl (.tmp 9) (.tmp 70) rfl (n := 15) itemSize13 w6.heap.size it0.cells x2.cells rfl rfl (Row.new _ _ _) ?_ (hid rfl) (hid rfl) HOI; intro w7 hr7 hg7; obtain ⟨q1, q2⟩ := Q6.out.one hg7; have Q7 := hid q1; have P7 := hid (q2.row P6.out (by simp)); have X7 := hid (q2.row X6.out (by simp)); have Y7 := hid hr7; have cr1 : w7.cell? ⟨bw, 1, none⟩ = some (.pointer (some ⟨jp5, 0, none⟩)) := P7.out.at_ 1 _ rfl; clear q1 q2 hr7 hg7)
                        | (go_at_call 14; refine (HRA.out _ _ _ Q7.out).mono ?_; rintro e w8 ⟨rfl, q, k8⟩; have Q8 := hid q; have P8 := hid (k8.row P7.out (by simp)); have X8 := hid (k8.row X7.out (by simp)); have Y8 := hid (k8.row Y7.out (by simp)); clear q k8)
                        | (refine wpl_store_st rfl (.tmp 10) (.tmp 78) rfl (n := 9) esize w8.heap.size en0.cells x2.entry.cells rfl rfl (Row.new _ _ _) ?_ (hid rfl) (hid rfl) HOE; intro w9 hr9 hg9; obtain ⟨q1, q2⟩ := Q8.out.one hg9; have Q9 := hid q1; have P9 := hid (q2.row P8.out (by simp)); have X9 := hid (q2.row X8.out (by simp)); have Y9 := hid (q2.row Y8.out (by simp)); have E9 := hid hr9; have cy : w9.cell? ⟨w6.heap.size, 0, none⟩ = some (.int .i64 1) := (by have h := Y9.out.at_ 0 (.int .i64 x2.kind) rfl; rw [HKK.out] at h; exact h); clear q1 q2 hr9 hg9)
                        | (refine wpl_load_want (by kernel_rfl) 28 (.tmp 10) rfl w8.heap.size rfl 28 x2.entry.cells (0, 0) _ E9.out.arr Tryd.underlying28 rfl (by exact esize) ?_)
                        | (refine wpl_load_midw (by kernel_rfl) 28 (.tmp 98) rfl w6.heap.size 6 rfl x2.entry.cells.toList _ (item_entry x2 Y9.out) Tryd.underlying28 rfl (by exact esize) ?_)
                        | (refine wpl_nee2 (by kernel_rfl) x2.entry x2.entry true (.tmp 97) (.tmp 99) _ rfl rfl rfl (hid ⟨fun _ => rfl, fun _ => rfl⟩) ?_))
                      go_roundw
                      case rel => exact ⟨m + 1, by omega, by have := HN.out; first | (congr 1; push_cast; omega) | (simp; omega), Q9.out.tail.tail, P9.out, X9.out⟩
                      case measure => simp [intOf]; have := HN.out; omega
                    · have hk0 : x2.kind = 0 := by rcases z1 with q | q; exact absurd q hk1; exact q
                      have hzy : (zy == 0) = false := by simpa using (fun q => hk1 (z2.1 q))
                      have HKK := hid hk0
                      clear z1 z2 HRE HIT HRR hk1 hk0
                      go_wp2_with (first
                        | (go_at_call 12; refine (HIA.out _ _ _ HQ.out).mono ?_; rintro e w6 ⟨rfl, hb6⟩; have Q6 := hid (HQ.out.new hb6).1; have P6 := hid (HR.out.below hb6 HR.out.lt); have X6 := hid (HX.out.below hb6 HX.out.lt); clear hb6)
                        | (refine wpl_store_st rfl (.tmp 9) (.tmp 70) rfl (n := 15) itemSize13 w6.heap.size it0.cells x2.cells rfl rfl (Row.new _ _ _) ?_ (hid rfl) (hid rfl) HOI; intro w7 hr7 hg7; obtain ⟨q1, q2⟩ := Q6.out.one hg7; have Q7 := hid q1; have P7 := hid (q2.row P6.out (by simp)); have X7 := hid (q2.row X6.out (by simp)); have Y7 := hid hr7; have cr1 : w7.cell? ⟨bw, 1, none⟩ = some (.pointer (some ⟨jp5, 0, none⟩)) := P7.out.at_ 1 _ rfl; clear q1 q2 hr7 hg7)
                        | (go_at_call 14; refine (HRA.out _ _ _ Q7.out).mono ?_; rintro e w8 ⟨rfl, q, k8⟩; have Q8 := hid q; have P8 := hid (k8.row P7.out (by simp)); have X8 := hid (k8.row X7.out (by simp)); have Y8 := hid (k8.row Y7.out (by simp)); clear q k8)
                        | (refine wpl_store_st rfl (.tmp 10) (.tmp 78) rfl (n := 9) esize w8.heap.size en0.cells x2.entry.cells rfl rfl (Row.new _ _ _) ?_ (hid rfl) (hid rfl) HOE; intro w9 hr9 hg9; obtain ⟨q1, q2⟩ := Q8.out.one hg9; have Q9 := hid q1; have P9 := hid (q2.row P8.out (by simp)); have X9 := hid (q2.row X8.out (by simp)); have Y9 := hid (q2.row Y8.out (by simp)); have E9 := hid hr9; have cy : w9.cell? ⟨w6.heap.size, 0, none⟩ = some (.int .i64 0) := (by have h := Y9.out.at_ 0 (.int .i64 x2.kind) rfl; rw [HKK.out] at h; exact h); clear q1 q2 hr9 hg9)
                        | (refine wpl_load_want (by kernel_rfl) 28 (.tmp 10) rfl w8.heap.size rfl 28 x2.entry.cells (0, 0) _ E9.out.arr Tryd.underlying28 rfl (by exact esize) ?_)
                        | (refine wpl_load_midw (by kernel_rfl) 28 (.tmp 98) rfl w6.heap.size 6 rfl x2.entry.cells.toList _ (item_entry x2 Y9.out) Tryd.underlying28 rfl (by exact esize) ?_)
                        | (refine wpl_nee2 (by kernel_rfl) x2.entry x2.entry true (.tmp 97) (.tmp 99) _ rfl rfl rfl (hid ⟨fun _ => rfl, fun _ => rfl⟩) ?_))
                      go_roundw
                      case rel => exact ⟨m + 1, by omega, by have := HN.out; first | (congr 1; push_cast; omega) | (simp; omega), Q9.out.tail.tail, P9.out, X9.out⟩
                      case measure => simp [intOf]; have := HN.out; omega
                  · have hgt : ¬ n ≤ J'.c + 8 := by omega
                    have HKA := hid (fun W (hr : Row W xb 32 C.toList) => HK0.out W xb hr)
                    clear hq hr hx hn HRE HRR
                    clear HIT
                    go_wp2_with fail
                    try simp only [Act.put, la1, la2, la3, la4, la5, la6]
                    refine wp_region_held_drew (S := fun W => Jd w1 W jp5 p gs S' J' [bw, xb] ∧ Row W bw 37 (wC p (some jp5) J'.c) ∧ Row W xb 32 C.toList) (by kernel_rfl) (⟨HQ.out.drew, HR.out, HX.out⟩) (fun hH => ?_)
                    refine tk_ (i := 0) (v := .bool false) rfl (Or.inl ⟨by kernel_rfl, fun w' _ => by kernel_rfl⟩) hH ?_
                    simp only [Act.put, la1, la3, la4, la5, la6]
                    refine tk_ (i := 1) (v := .bool false) rfl (Or.inl ⟨by kernel_rfl, fun w' _ => by kernel_rfl⟩) hH ?_
                    simp only [Act.put, la1, la2, la3, la4, la5, la6]
                    refine tk_ (i := 2) (v := undef) rfl (Or.inr ⟨by kernel_rfl, rfl⟩) hH ?_
                    simp only [Act.put, la1, la2, la3, la4, la5, la6]
                    refine tk_ (i := 3) (v := undef) rfl (Or.inr ⟨by kernel_rfl, rfl⟩) hH ?_
                    simp only [Act.put, la1, la2, la3, la4, la5, la6]
                    refine tk_ (i := 4) (v := undef) rfl (Or.inr ⟨by kernel_rfl, rfl⟩) hH ?_
                    simp only [Act.put, la1, la2, la3, la4, la5, la6]
                    refine tk_ (i := 5) (v := .bool false) rfl (Or.inl ⟨by kernel_rfl, fun w' _ => by kernel_rfl⟩) hH ?_
                    simp only [Act.put, la1, la2, la3, la4, la5, la6]
                    refine tk_ (i := 6) (v := .bool false) rfl (Or.inl ⟨by kernel_rfl, fun w' _ => by kernel_rfl⟩) hH ?_
                    simp only [Act.put, la1, la2, la3, la4, la5, la6]
                    refine tk_ (i := 7) (v := undef) rfl (Or.inr ⟨by kernel_rfl, rfl⟩) hH ?_
                    simp only [Act.put, la1, la2, la3, la4, la5, la6]
                    refine tk_ (i := 8) (v := undef) rfl (Or.inr ⟨by kernel_rfl, rfl⟩) hH ?_
                    simp only [Act.put, la1, la2, la3, la4, la5, la6]
                    refine tk_ (i := 9) (v := .bool false) rfl (Or.inl ⟨by kernel_rfl, fun w' _ => by kernel_rfl⟩) hH ?_
                    simp only [Act.put, la1, la2, la3, la4, la5, la6]
                    refine tk_ (i := 10) (v := .bool false) rfl (Or.inl ⟨by kernel_rfl, fun w' _ => by kernel_rfl⟩) hH ?_
                    simp only [Act.put, la1, la2, la3, la4, la5, la6]
                    refine tk_ (i := 11) (v := undef) rfl (Or.inr ⟨by kernel_rfl, rfl⟩) hH ?_
                    simp only [Act.put, la1, la2, la3, la4, la5, la6]
                    refine tk_ (i := 12) (v := undef) rfl (Or.inr ⟨by kernel_rfl, rfl⟩) hH ?_
                    simp only [Act.put, la1, la2, la3, la4, la5, la6]
                    refine tk_ (i := 13) (v := undef) rfl (Or.inr ⟨by kernel_rfl, rfl⟩) hH ?_
                    simp only [Act.put, la1, la2, la3, la4, la5, la6]
                    refine tk_ (i := 14) (v := undef) rfl (Or.inr ⟨by kernel_rfl, rfl⟩) hH ?_
                    simp only [Act.put, la1, la2, la3, la4, la5, la6]
                    refine tk_ (i := 15) (v := undef) rfl (Or.inr ⟨by kernel_rfl, rfl⟩) hH ?_
                    simp only [Act.put, la1, la2, la3, la4, la5, la6]
                    refine tk_ (i := 16) (v := undef) rfl (Or.inr ⟨by kernel_rfl, rfl⟩) hH ?_
                    simp only [Act.put, la1, la2, la3, la4, la5, la6]
                    refine tk_ (i := 17) (v := undef) rfl (Or.inr ⟨by kernel_rfl, rfl⟩) hH ?_
                    simp only [Act.put, la1, la2, la3, la4, la5, la6]
                    refine tk_ (i := 18) (v := undef) rfl (Or.inr ⟨by kernel_rfl, rfl⟩) hH ?_
                    simp only [Act.put, la1, la2, la3, la4, la5, la6]
                    refine tk_ (i := 19) (v := undef) rfl (Or.inr ⟨by kernel_rfl, rfl⟩) hH ?_
                    simp only [Act.put, la1, la2, la3, la4, la5, la6]
                    refine tk_ (i := 20) (v := undef) rfl (Or.inr ⟨by kernel_rfl, rfl⟩) hH ?_
                    simp only [Act.put, la1, la2, la3, la4, la5, la6]
                    refine tk_ (i := 21) (v := undef) rfl (Or.inr ⟨by kernel_rfl, rfl⟩) hH ?_
                    simp only [Act.put, la1, la2, la3, la4, la5, la6]
                    refine tk_ (i := 22) (v := undef) rfl (Or.inr ⟨by kernel_rfl, rfl⟩) hH ?_
                    simp only [Act.put, la1, la2, la3, la4, la5, la6]
                    refine tk_ (i := 23) (v := .bool false) rfl (Or.inl ⟨by kernel_rfl, fun w' _ => by kernel_rfl⟩) hH ?_
                    simp only [Act.put, la1, la2, la3, la4, la5, la6]
                    refine wpAnyH_done (by kernel_rfl) ?_ _
                    try simp only [Act.put, la1, la2, la3, la4, la5, la6]
                    have ND := hid hH.1
                    have NZ := hid hH.2.1
                    clear hH
                    go_wp2_with fail
                    go_roundw
                    case rel => exact ⟨k + 1, ⟨S', some J', J'.c⟩, by omega, by omega, by go_num, HNX, by have h1 : S'.count ≤ _ + 32 := HCN.out; have h2 : _ ≤ 17 + 32 * k := HCC.out; show S'.count ≤ 17 + 32 * (k + 1); exact Nat.le_trans h1 (by omega), HBW.out, by simp, jp5, ND.out.sub (by simp), NZ.out⟩
                    case measure => simp [intOf]; omega
            | some J =>
              have HPI : Hid (x.kind = 1 → (doesJ ⟨S, some J, c⟩ x).2 = 0 → ∀ S' J' c', (doesJ ⟨S, some J, c⟩ x).1 = ⟨S', some J', c'⟩ → (J'.item x.e.opn).entry = x.e) := hid fun k1 hy S' J' c' hv => clean_put_item HIV.out.2.wf k1 hy hv
              generalize hdj : doesJ ⟨S, some J, c⟩ x = R at *
              obtain ⟨v', y⟩ := R
              simp only at HNX HCN HD9 HPI
              have h9c := hid h9b
              clear h9b h9 hdj
              obtain ⟨S', j', c'⟩ := v'
              cases j' with
              | none =>
                have h9b := h9c.out
                go_wp2_with (first
                  | ((with_reducible show wpList _ _ _ ({ dst := some 30, op := _, type := _, pos := _, after := _, guard := _ } :: _) _ _); refine wpl_load_midw rfl 32 (.tmp 29) rfl g (o + k * 15) rfl C.toList _ HRG2.out Tryd.underlying32 rfl (by rw [Array.length_toList, HCS.out]; exact actSize) ?_)
                  | ((with_reducible show wpList _ _ _ ({ dst := none, op := .store _ (.tmp 5) _, type := _, pos := _, after := _, guard := _ } :: _) _ _); refine wpl_store_st rfl (.tmp 5) (.tmp 30) rfl (n := 15) actSize xb (actC ⟨0, en0, 0, 0, 0, 0, []⟩ none 0 0) C rfl rfl (by rw [← HXB.out]; exact Row.new _ _ _) ?_ (hid rfl) HCS HCO; intro w3 hr3 hg3; have b3 : Below wr.heap.size wr w3 := ((Below.refl wr.heap.size wr).alloc (Nat.le_refl _) _).trans (below_grown hg3 (by rw [HXB.out]; exact Nat.le_refl _) (by simp)); have H3 := hid (HJ.out.add b3 (g := xb) (by rw [HXB.out]; exact Nat.le_refl _) hr3.lt); have R3 := hid hr3; clear hr3 hg3 b3)
                  | ((with_reducible show wpList _ _ _ ({ dst := some 31, op := _, type := _, pos := _, after := _, guard := _ } :: _) _ _); refine wpList_load_row rfl 32 (.tmp 5) rfl xb rfl 32 C (0, 0) _ R3.out.arr Tryd.underlying32 rfl (by rw [HCS.out]; exact actSize) ?_)
                  | (go_at_call 9; refine (HFA.out _).mono ?_; rintro e w4 ⟨rfl, hb4⟩; have H4 := hid (H3.out.new hb4).1; have R4 := hid ((H3.out.new hb4).2.row R3.out (by simp)); have ca0 := (HK0.out _ _ R4.out).1; obtain ⟨_, _, jp4, hD4, hr4⟩ := H4.out; have cb1 : w4.cell? ⟨bw, 1, none⟩ = some (.pointer (some ⟨jp4, 0, none⟩)) := hr4.at_ 1 _ rfl; clear hD4 hr4; clear hb4)
                  | ((with_reducible show wpList _ _ _ ({ dst := some 44, op := _, type := _, pos := _, after := _, guard := _ } :: _) _ _); refine wpList_load_row rfl 32 (.tmp 5) rfl xb rfl 32 C (0, 0) _ R4.out.arr Tryd.underlying32 rfl (by rw [HCS.out]; exact actSize) ?_)
                  | (go_at_call 11; refine (HD9.out _ _ H4.out).mono ?_; rintro e w5 ⟨rfl, q, k5⟩; have H5 := hid q; have R5 := hid (k5.row R4.out (by simp)); obtain ⟨_, _, hD5, hr5⟩ := H5.out; have cb1 : w5.cell? ⟨bw, 1, none⟩ = some (.pointer none) := hr5.at_ 1 _ rfl; clear hD5 hr5; clear q k5))
                go_roundw
                case rel => exact ⟨k + 1, ⟨S', none, c'⟩, by omega, by omega, by go_num, HNX, by have h1 : S'.count ≤ _ + 32 := HCN.out; have h2 : _ ≤ 17 + 32 * k := HCC.out; show S'.count ≤ 17 + 32 * (k + 1); exact Nat.le_trans h1 (by omega), H5.out.tail⟩
                case measure => simp [intOf]; omega
              | some J' =>
                obtain ⟨hcj, hhc⟩ := HNX.out
                have hcj : c' = J'.c := hcj
                have hhc : HereC S' J' := hhc
                subst hcj
                have HW := hid hhc.wf
                have HRE := hid (fun n => clean_read hhc n)
                have hc0 := hhc.wf.c0
                have hc1 := hhc.wf.c1
                have HCB := hid (And.intro hc0 hc1)
                have hcnt : S'.count ≤ 900000 := by have h1 : S'.count ≤ S.count + 32 := HCN.out; have h2 : S.count ≤ 17 + 32 * k := HCC.out; omega
                have HIT : Hid (∀ W jp (Y : List Nat), Jd w1 W jp p gs S' J' Y → ∀ n, Calls Tryd.prog 12 #[.pointer (some ⟨jp, 0, none⟩), .int .i64 n] W (VE W (.agg (J'.item n).cells))) := hid fun W jp Y hW n => item_any13 hW HW.out n
                have HRR : Hid (∀ W jp (Y : List Nat), Jd w1 W jp p gs S' J' Y → ∀ n, Calls Tryd.prog 14 #[.pointer (some ⟨jp, 0, none⟩), .int .i64 n] W (JC w1 W jp p gs S' (readJn S' J' n).1 Y (.tuple #[.agg (readJn S' J' n).2.1.cells, .int .i64 (readJn S' J' n).2.2]))) := hid fun W jp Y hW n => read_any13 hW HW.out n hcnt
                have ec1 : IntKind.i64.wrap (J'.c + 1) = J'.c + 1 := w64 (by omega) (by omega)
                have ec8 : IntKind.i64.wrap (J'.c + 8) = J'.c + 8 := w64 (by omega) (by omega)
                clear hhc hcnt hc0 hc1
                have h9b := h9c.out
                go_wp2_with (first
                  | ((with_reducible show wpList _ _ _ ({ dst := some 30, op := _, type := _, pos := _, after := _, guard := _ } :: _) _ _); refine wpl_load_midw rfl 32 (.tmp 29) rfl g (o + k * 15) rfl C.toList _ HRG2.out Tryd.underlying32 rfl (by rw [Array.length_toList, HCS.out]; exact actSize) ?_)
                  | ((with_reducible show wpList _ _ _ ({ dst := none, op := .store _ (.tmp 5) _, type := _, pos := _, after := _, guard := _ } :: _) _ _); refine wpl_store_st rfl (.tmp 5) (.tmp 30) rfl (n := 15) actSize xb (actC ⟨0, en0, 0, 0, 0, 0, []⟩ none 0 0) C rfl rfl (by rw [← HXB.out]; exact Row.new _ _ _) ?_ (hid rfl) HCS HCO; intro w3 hr3 hg3; have b3 : Below wr.heap.size wr w3 := ((Below.refl wr.heap.size wr).alloc (Nat.le_refl _) _).trans (below_grown hg3 (by rw [HXB.out]; exact Nat.le_refl _) (by simp)); have H3 := hid (HJ.out.add b3 (g := xb) (by rw [HXB.out]; exact Nat.le_refl _) hr3.lt); have R3 := hid hr3; clear hr3 hg3 b3)
                  | ((with_reducible show wpList _ _ _ ({ dst := some 31, op := _, type := _, pos := _, after := _, guard := _ } :: _) _ _); refine wpList_load_row rfl 32 (.tmp 5) rfl xb rfl 32 C (0, 0) _ R3.out.arr Tryd.underlying32 rfl (by rw [HCS.out]; exact actSize) ?_)
                  | (go_at_call 9; refine (HFA.out _).mono ?_; rintro e w4 ⟨rfl, hb4⟩; have H4 := hid (H3.out.new hb4).1; have R4 := hid ((H3.out.new hb4).2.row R3.out (by simp)); have ca0 := (HK0.out _ _ R4.out).1; obtain ⟨_, _, jp4, hD4, hr4⟩ := H4.out; have cb1 : w4.cell? ⟨bw, 1, none⟩ = some (.pointer (some ⟨jp4, 0, none⟩)) := hr4.at_ 1 _ rfl; clear hD4 hr4; clear hb4)
                  | ((with_reducible show wpList _ _ _ ({ dst := some 44, op := _, type := _, pos := _, after := _, guard := _ } :: _) _ _); refine wpList_load_row rfl 32 (.tmp 5) rfl xb rfl 32 C (0, 0) _ R4.out.arr Tryd.underlying32 rfl (by rw [HCS.out]; exact actSize) ?_)
                  | (go_at_call 11; refine (HD9.out _ _ H4.out).mono ?_; rintro e w5 ⟨rfl, q, k5⟩; have H5 := hid q; have R5 := hid (k5.row R4.out (by simp)); obtain ⟨hbw5, _, jp5, hD5, hr5⟩ := H5.out; have cb1 : w5.cell? ⟨bw, 1, none⟩ = some (.pointer (some ⟨jp5, 0, none⟩)) := hr5.at_ 1 _ rfl; have cb2 : w5.cell? ⟨bw, 2, none⟩ = some (.int .i64 J'.c) := hr5.at_ 2 _ rfl; have J5 := hid hD5; have Z5 := hid hr5; have HBW := hid hbw5; clear hD5 hr5; clear q k5))
                go_loopw [8] (fun i wr => ∃ m : Nat, m ≤ 8 ∧ i = .int .i64 (J'.c + 1 + (m : Int)) ∧ Jd w1 wr jp5 p gs S' J' [bw, xb] ∧ Row wr bw 37 (wC p (some jp5) J'.c) ∧ Row wr xb 32 C.toList) (fun i _ => (J'.c + 9 - intOf i).toNat)
                case atStart => exact ⟨0, by omega, by simp, J5.out, Z5.out, R5.out⟩
                case round =>
                  obtain ⟨m, hm, rfl, hq, hr, hx⟩ := hrel
                  have HQ := hid hq
                  have HR := hid hr
                  have HX := hid hx
                  obtain ⟨b1, b2⟩ := HCB.out
                  have cr1 : wr.cell? ⟨bw, 1, none⟩ = some (.pointer (some ⟨jp5, 0, none⟩)) := hr.at_ 1 _ rfl
                  have cr2 : wr.cell? ⟨bw, 2, none⟩ = some (.int .i64 J'.c) := hr.at_ 2 _ rfl
                  obtain ⟨n, hn⟩ : ∃ n, n = J'.c + 1 + (m : Int) := ⟨_, rfl⟩
                  rw [← hn]
                  by_cases hlm : m < 8
                  · have hle : n ≤ J'.c + 8 := by omega
                    have en : IntKind.i64.wrap (n + 1) = n + 1 := w64 (by omega) (by omega)
                    obtain ⟨ze, zy, er, hz⟩ := HRE.out n
                    obtain ⟨z1, z2, z3⟩ := hz ⟨by omega, hle⟩
                    have HIA := hid (fun W jp (Y : List Nat) (hW : Jd w1 W jp p gs S' J' Y) => HIT.out W jp Y hW n)
                    have HRA : Hid (∀ W jp (Y : List Nat), Jd w1 W jp p gs S' J' Y → Calls Tryd.prog 14 #[.pointer (some ⟨jp, 0, none⟩), .int .i64 n] W (JC w1 W jp p gs S' J' Y (.tuple #[.agg (J'.item n).entry.cells, .int .i64 zy]))) := hid fun W jp Y hW => by
                      have := HRR.out W jp Y hW n
                      rw [er, z3] at this
                      exact this
                    have HOI := hid (itC_one (J'.item n))
                    have HOE := hid (ecells_one (J'.item n).entry)
                    have HN := hid hn
                    generalize J'.item n = x2 at *
                    clear hq hr hx er z3 hn hz
                    by_cases hk1 : x2.kind = 1
                    · have hzy : zy = 0 := z2.2 hk1
                      subst hzy
                      have HKK := hid hk1
                      clear z1 z2 HRE HIT HRR HPI hk1
                      go_wp2_with (first
                        | (go_at_call 12; refine (HIA.out _ _ _ HQ.out).mono ?_; rintro e w6 ⟨rfl, hb6⟩; have Q6 := hid (HQ.out.new hb6).1; have P6 := hid (HR.out.below hb6 HR.out.lt); have X6 := hid (HX.out.below hb6 HX.out.lt); clear hb6)
                        | (refine wpl_store_st rfl (.tmp 9) (.tmp 70) rfl (n := 15) itemSize13 w6.heap.size it0.cells x2.cells rfl rfl (Row.new _ _ _) ?_ (hid rfl) (hid rfl) HOI; intro w7 hr7 hg7; obtain ⟨q1, q2⟩ := Q6.out.one hg7; have Q7 := hid q1; have P7 := hid (q2.row P6.out (by simp)); have X7 := hid (q2.row X6.out (by simp)); have Y7 := hid hr7; have cr1 : w7.cell? ⟨bw, 1, none⟩ = some (.pointer (some ⟨jp5, 0, none⟩)) := P7.out.at_ 1 _ rfl; clear q1 q2 hr7 hg7)
                        | (go_at_call 14; refine (HRA.out _ _ _ Q7.out).mono ?_; rintro e w8 ⟨rfl, q, k8⟩; have Q8 := hid q; have P8 := hid (k8.row P7.out (by simp)); have X8 := hid (k8.row X7.out (by simp)); have Y8 := hid (k8.row Y7.out (by simp)); clear q k8)
                        | (refine wpl_store_st rfl (.tmp 10) (.tmp 78) rfl (n := 9) esize w8.heap.size en0.cells x2.entry.cells rfl rfl (Row.new _ _ _) ?_ (hid rfl) (hid rfl) HOE; intro w9 hr9 hg9; obtain ⟨q1, q2⟩ := Q8.out.one hg9; have Q9 := hid q1; have P9 := hid (q2.row P8.out (by simp)); have X9 := hid (q2.row X8.out (by simp)); have Y9 := hid (q2.row Y8.out (by simp)); have E9 := hid hr9; have cy : w9.cell? ⟨w6.heap.size, 0, none⟩ = some (.int .i64 1) := (by have h := Y9.out.at_ 0 (.int .i64 x2.kind) rfl; rw [HKK.out] at h; exact h); clear q1 q2 hr9 hg9)
                        | (refine wpl_load_want (by kernel_rfl) 28 (.tmp 10) rfl w8.heap.size rfl 28 x2.entry.cells (0, 0) _ E9.out.arr Tryd.underlying28 rfl (by exact esize) ?_)
                        | (refine wpl_load_midw (by kernel_rfl) 28 (.tmp 98) rfl w6.heap.size 6 rfl x2.entry.cells.toList _ (item_entry x2 Y9.out) Tryd.underlying28 rfl (by exact esize) ?_)
                        | (refine wpl_nee2 (by kernel_rfl) x2.entry x2.entry true (.tmp 97) (.tmp 99) _ rfl rfl rfl (hid ⟨fun _ => rfl, fun _ => rfl⟩) ?_))
                      go_roundw
                      case rel => exact ⟨m + 1, by omega, by have := HN.out; first | (congr 1; push_cast; omega) | (simp; omega), Q9.out.tail.tail, P9.out, X9.out⟩
                      case measure => simp [intOf]; have := HN.out; omega
                    · have hk0 : x2.kind = 0 := by rcases z1 with q | q; exact absurd q hk1; exact q
                      have hzy : (zy == 0) = false := by simpa using (fun q => hk1 (z2.1 q))
                      have HKK := hid hk0
                      clear z1 z2 HRE HIT HRR HPI hk1 hk0
                      go_wp2_with (first
                        | (go_at_call 12; refine (HIA.out _ _ _ HQ.out).mono ?_; rintro e w6 ⟨rfl, hb6⟩; have Q6 := hid (HQ.out.new hb6).1; have P6 := hid (HR.out.below hb6 HR.out.lt); have X6 := hid (HX.out.below hb6 HX.out.lt); clear hb6)
                        | (refine wpl_store_st rfl (.tmp 9) (.tmp 70) rfl (n := 15) itemSize13 w6.heap.size it0.cells x2.cells rfl rfl (Row.new _ _ _) ?_ (hid rfl) (hid rfl) HOI; intro w7 hr7 hg7; obtain ⟨q1, q2⟩ := Q6.out.one hg7; have Q7 := hid q1; have P7 := hid (q2.row P6.out (by simp)); have X7 := hid (q2.row X6.out (by simp)); have Y7 := hid hr7; have cr1 : w7.cell? ⟨bw, 1, none⟩ = some (.pointer (some ⟨jp5, 0, none⟩)) := P7.out.at_ 1 _ rfl; clear q1 q2 hr7 hg7)
                        | (go_at_call 14; refine (HRA.out _ _ _ Q7.out).mono ?_; rintro e w8 ⟨rfl, q, k8⟩; have Q8 := hid q; have P8 := hid (k8.row P7.out (by simp)); have X8 := hid (k8.row X7.out (by simp)); have Y8 := hid (k8.row Y7.out (by simp)); clear q k8)
                        | (refine wpl_store_st rfl (.tmp 10) (.tmp 78) rfl (n := 9) esize w8.heap.size en0.cells x2.entry.cells rfl rfl (Row.new _ _ _) ?_ (hid rfl) (hid rfl) HOE; intro w9 hr9 hg9; obtain ⟨q1, q2⟩ := Q8.out.one hg9; have Q9 := hid q1; have P9 := hid (q2.row P8.out (by simp)); have X9 := hid (q2.row X8.out (by simp)); have Y9 := hid (q2.row Y8.out (by simp)); have E9 := hid hr9; have cy : w9.cell? ⟨w6.heap.size, 0, none⟩ = some (.int .i64 0) := (by have h := Y9.out.at_ 0 (.int .i64 x2.kind) rfl; rw [HKK.out] at h; exact h); clear q1 q2 hr9 hg9)
                        | (refine wpl_load_want (by kernel_rfl) 28 (.tmp 10) rfl w8.heap.size rfl 28 x2.entry.cells (0, 0) _ E9.out.arr Tryd.underlying28 rfl (by exact esize) ?_)
                        | (refine wpl_load_midw (by kernel_rfl) 28 (.tmp 98) rfl w6.heap.size 6 rfl x2.entry.cells.toList _ (item_entry x2 Y9.out) Tryd.underlying28 rfl (by exact esize) ?_)
                        | (refine wpl_nee2 (by kernel_rfl) x2.entry x2.entry true (.tmp 97) (.tmp 99) _ rfl rfl rfl (hid ⟨fun _ => rfl, fun _ => rfl⟩) ?_))
                      go_roundw
                      case rel => exact ⟨m + 1, by omega, by have := HN.out; first | (congr 1; push_cast; omega) | (simp; omega), Q9.out.tail.tail, P9.out, X9.out⟩
                      case measure => simp [intOf]; have := HN.out; omega
                  · have hgt : ¬ n ≤ J'.c + 8 := by omega
                    have HKA := hid (fun W (hr : Row W xb 32 C.toList) => HK0.out W xb hr)
                    clear hq hr hx hn HRE HRR
                    by_cases hx1 : x.kind = 1
                    · by_cases hy0 : y = 0
                      · have HEN := hid (HPI.out hx1 hy0 S' J' J'.c rfl)
                        have HX1 := hid hx1
                        have HIA : Hid (∀ W (Y : List Nat), Jd w1 W jp5 p gs S' J' Y → Calls Tryd.prog 12 #[.pointer (some ⟨jp5, 0, none⟩), .int .i64 x.e.opn] W (VE W (.agg (J'.item x.e.opn).cells))) := hid fun W Y hW => HIT.out W jp5 Y hW x.e.opn
                        generalize J'.item x.e.opn = x3 at *
                        subst hy0
                        clear HIT hx1 HPI
                        go_wp2_with fail
                        try simp only [Act.put, la1, la2, la3, la4, la5, la6]
                        refine wp_region_held_drew (S := fun W => Jd w1 W jp5 p gs S' J' [bw, xb] ∧ Row W bw 37 (wC p (some jp5) J'.c) ∧ Row W xb 32 C.toList) (by kernel_rfl) (⟨HQ.out.drew, HR.out, HX.out⟩) (fun hH => ?_)
                        refine tk_ (i := 0) (v := .bool true) rfl (Or.inl ⟨by kernel_rfl, fun w' _ => by kernel_rfl⟩) hH ?_
                        simp only [Act.put, la1, la3, la4, la5, la6]
                        refine tk_ (i := 1) (v := .bool true) rfl (Or.inl ⟨by kernel_rfl, fun w' _ => by kernel_rfl⟩) hH ?_
                        simp only [Act.put, la1, la2, la3, la4, la5, la6]
                        refine tk_ (i := 2) (v := .pointer (some ⟨xb, 0, none⟩)) rfl (Or.inl ⟨by kernel_rfl, fun w' hw' => by clear hw'; go_simp⟩) hH ?_
                        simp only [Act.put, la1, la2, la3, la4, la5, la6]
                        refine tk_ (i := 3) (v := .int .i64 x.kind) rfl (Or.inl ⟨by kernel_rfl, fun w' hw' => by have h := (HKA.out _ hw'.2.2).1; go_simp⟩) hH ?_
                        simp only [Act.put, la1, la2, la3, la4, la5, la6]
                        refine tk_ (i := 4) (v := .bool true) rfl (Or.inl ⟨by kernel_rfl, fun w' hw' => by have h := HX1.out; go_simp⟩) hH ?_
                        simp only [Act.put, la1, la2, la3, la4, la5, la6]
                        refine tk_ (i := 5) (v := .bool true) rfl (Or.inl ⟨by kernel_rfl, fun w' _ => by kernel_rfl⟩) hH ?_
                        simp only [Act.put, la1, la2, la3, la4, la5, la6]
                        refine tk_ (i := 6) (v := .bool true) rfl (Or.inl ⟨by kernel_rfl, fun w' _ => by kernel_rfl⟩) hH ?_
                        simp only [Act.put, la1, la2, la3, la4, la5, la6]
                        refine tk_ (i := 7) (v := .int .i64 0) rfl (Or.inl ⟨by kernel_rfl, fun w' hw' => by clear hw'; go_simp⟩) hH ?_
                        simp only [Act.put, la1, la2, la3, la4, la5, la6]
                        refine tk_ (i := 8) (v := .bool true) rfl (Or.inl ⟨by kernel_rfl, fun w' hw' => by clear hw'; go_simp⟩) hH ?_
                        simp only [Act.put, la1, la2, la3, la4, la5, la6]
                        refine tk_ (i := 9) (v := .bool true) rfl (Or.inl ⟨by kernel_rfl, fun w' _ => by kernel_rfl⟩) hH ?_
                        simp only [Act.put, la1, la2, la3, la4, la5, la6]
                        refine tk_ (i := 10) (v := .bool true) rfl (Or.inl ⟨by kernel_rfl, fun w' _ => by kernel_rfl⟩) hH ?_
                        simp only [Act.put, la1, la2, la3, la4, la5, la6]
                        refine tk_ (i := 11) (v := .pointer (some ⟨bw, 0, none⟩)) rfl (Or.inl ⟨by kernel_rfl, fun w' hw' => by clear hw'; go_simp⟩) hH ?_
                        simp only [Act.put, la1, la2, la3, la4, la5, la6]
                        refine tk_ (i := 12) (v := .pointer (some ⟨bw, 0, none⟩)) rfl (Or.inl ⟨by kernel_rfl, fun w' hw' => by clear hw'; go_simp⟩) hH ?_
                        simp only [Act.put, la1, la2, la3, la4, la5, la6]
                        refine tk_ (i := 13) (v := .pointer (some ⟨bw, 1, none⟩)) rfl (Or.inl ⟨by kernel_rfl, fun w' hw' => by clear hw'; go_simp⟩) hH ?_
                        simp only [Act.put, la1, la2, la3, la4, la5, la6]
                        refine tk_ (i := 14) (v := .pointer (some ⟨jp5, 0, none⟩)) rfl (Or.inl ⟨by kernel_rfl, fun w' hw' => by have h := hw'.2.1.at_ 1 (.pointer (some ⟨jp5, 0, none⟩)) rfl; go_simp⟩) hH ?_
                        simp only [Act.put, la1, la2, la3, la4, la5, la6]
                        refine tk_ (i := 15) (v := .pointer (some ⟨xb, 1, none⟩)) rfl (Or.inl ⟨by kernel_rfl, fun w' hw' => by clear hw'; go_simp⟩) hH ?_
                        simp only [Act.put, la1, la2, la3, la4, la5, la6]
                        refine tk_ (i := 16) (v := .pointer (some ⟨xb, 2, none⟩)) rfl (Or.inl ⟨by kernel_rfl, fun w' hw' => by clear hw'; go_simp⟩) hH ?_
                        simp only [Act.put, la1, la2, la3, la4, la5, la6]
                        refine tk_ (i := 17) (v := .int .i64 x.e.opn) rfl (Or.inl ⟨by kernel_rfl, fun w' hw' => by have h := (HKA.out _ hw'.2.2).2.1; go_simp⟩) hH ?_
                        simp only [Act.put, la1, la2, la3, la4, la5, la6]
                        refine tk_ (i := 20) (v := .pointer (some ⟨xb, 1, none⟩)) rfl (Or.inl ⟨by kernel_rfl, fun w' hw' => by clear hw'; go_simp⟩) hH ?_
                        simp only [Act.put, la1, la2, la3, la4, la5, la6]
                        refine tk_ (i := 21) (v := .agg x.e.cells) rfl ?_ hH ?_
                        · refine yieldsIf_load_mid ?_ 28 (.tmp 122) ?_ xb 1 ?_ x.e.cells.toList _ (fun W hW => (HKA.out _ hW.2.2).2.2) Tryd.underlying28 rfl (by exact esize)
                          all_goals kernel_rfl
                        simp only [Act.put, la1, la2, la3, la4, la5, la6]
                        refine wpAnyH_ready (rs := [18]) (by kernel_rfl) (by simp) ?_
                        refine AllReadyH.cons rfl (fun K hK => ?_) AllReadyH.nil
                        rw [if_pos (by kernel_rfl)]
                        go_simp
                        go_at_call 12
                        refine (HIA.out _ _ hH.1).mono ?_
                        rintro e w10 ⟨rfl, hb10⟩
                        go_wp2_with fail
                        refine hK.out _ _ (⟨(hH.1.new hb10).1, hH.2.1.below hb10 hH.2.1.lt, hH.2.2.below hb10 hH.2.2.lt⟩) (fun hH => ?_)
                        clear hK K
                        try simp only [Act.put, la1, la2, la3, la4, la5, la6]
                        refine tk_ (i := 19) (v := .agg x3.entry.cells) rfl (Or.inl ⟨by kernel_rfl, fun w' _ => by kernel_rfl⟩) hH ?_
                        simp only [Act.put, la1, la2, la3, la4, la5, la6]
                        refine tk_ (i := 22) (v := .bool (!true)) rfl (yields_nee (by kernel_rfl) x3.entry x.e true (hid ⟨fun _ => HEN.out, fun _ => rfl⟩) (.tmp 121) (.tmp 123) _ rfl (by kernel_rfl) (by kernel_rfl)) hH ?_
                        simp only [Act.put, la1, la2, la3, la4, la5, la6]
                        refine tk_ (i := 23) (v := .bool false) rfl (Or.inl ⟨by kernel_rfl, fun w' _ => by kernel_rfl⟩) hH ?_
                        simp only [Act.put, la1, la2, la3, la4, la5, la6]
                        refine wpAnyH_done (by kernel_rfl) ?_ _
                        try simp only [Act.put, la1, la2, la3, la4, la5, la6]
                        have ND := hid hH.1
                        have NZ := hid hH.2.1
                        clear hH hb10
                        go_wp2_with fail
                        go_roundw
                        case rel => exact ⟨k + 1, ⟨S', some J', J'.c⟩, by omega, by omega, by go_num, HNX, by have h1 : S'.count ≤ _ + 32 := HCN.out; have h2 : _ ≤ 17 + 32 * k := HCC.out; show S'.count ≤ 17 + 32 * (k + 1); exact Nat.le_trans h1 (by omega), HBW.out, by simp, jp5, ND.out.sub (by simp), NZ.out⟩
                        case measure => simp [intOf]; omega
                      · have HY0 := hid (show (y == 0) = false by simpa using hy0)
                        have HX1 := hid hx1
                        clear HIT hx1 hy0 HPI
                        go_wp2_with fail
                        try simp only [Act.put, la1, la2, la3, la4, la5, la6]
                        refine wp_region_held_drew (S := fun W => Jd w1 W jp5 p gs S' J' [bw, xb] ∧ Row W bw 37 (wC p (some jp5) J'.c) ∧ Row W xb 32 C.toList) (by kernel_rfl) (⟨HQ.out.drew, HR.out, HX.out⟩) (fun hH => ?_)
                        refine tk_ (i := 0) (v := .bool true) rfl (Or.inl ⟨by kernel_rfl, fun w' _ => by kernel_rfl⟩) hH ?_
                        simp only [Act.put, la1, la3, la4, la5, la6]
                        refine tk_ (i := 1) (v := .bool true) rfl (Or.inl ⟨by kernel_rfl, fun w' _ => by kernel_rfl⟩) hH ?_
                        simp only [Act.put, la1, la2, la3, la4, la5, la6]
                        refine tk_ (i := 2) (v := .pointer (some ⟨xb, 0, none⟩)) rfl (Or.inl ⟨by kernel_rfl, fun w' hw' => by clear hw'; go_simp⟩) hH ?_
                        simp only [Act.put, la1, la2, la3, la4, la5, la6]
                        refine tk_ (i := 3) (v := .int .i64 x.kind) rfl (Or.inl ⟨by kernel_rfl, fun w' hw' => by have h := (HKA.out _ hw'.2.2).1; go_simp⟩) hH ?_
                        simp only [Act.put, la1, la2, la3, la4, la5, la6]
                        refine tk_ (i := 4) (v := .bool true) rfl (Or.inl ⟨by kernel_rfl, fun w' hw' => by have h := HX1.out; go_simp⟩) hH ?_
                        simp only [Act.put, la1, la2, la3, la4, la5, la6]
                        refine tk_ (i := 5) (v := .bool true) rfl (Or.inl ⟨by kernel_rfl, fun w' _ => by kernel_rfl⟩) hH ?_
                        simp only [Act.put, la1, la2, la3, la4, la5, la6]
                        refine tk_ (i := 6) (v := .bool true) rfl (Or.inl ⟨by kernel_rfl, fun w' _ => by kernel_rfl⟩) hH ?_
                        simp only [Act.put, la1, la2, la3, la4, la5, la6]
                        refine tk_ (i := 7) (v := .int .i64 y) rfl (Or.inl ⟨by kernel_rfl, fun w' hw' => by clear hw'; go_simp⟩) hH ?_
                        simp only [Act.put, la1, la2, la3, la4, la5, la6]
                        refine tk_ (i := 8) (v := .bool false) rfl (Or.inl ⟨by kernel_rfl, fun w' hw' => by have h := HY0.out; go_simp⟩) hH ?_
                        simp only [Act.put, la1, la2, la3, la4, la5, la6]
                        refine tk_ (i := 9) (v := .bool false) rfl (Or.inl ⟨by kernel_rfl, fun w' _ => by kernel_rfl⟩) hH ?_
                        simp only [Act.put, la1, la2, la3, la4, la5, la6]
                        refine tk_ (i := 10) (v := .bool false) rfl (Or.inl ⟨by kernel_rfl, fun w' _ => by kernel_rfl⟩) hH ?_
                        simp only [Act.put, la1, la2, la3, la4, la5, la6]
                        refine tk_ (i := 11) (v := undef) rfl (Or.inr ⟨by kernel_rfl, rfl⟩) hH ?_
                        simp only [Act.put, la1, la2, la3, la4, la5, la6]
                        refine tk_ (i := 12) (v := undef) rfl (Or.inr ⟨by kernel_rfl, rfl⟩) hH ?_
                        simp only [Act.put, la1, la2, la3, la4, la5, la6]
                        refine tk_ (i := 13) (v := undef) rfl (Or.inr ⟨by kernel_rfl, rfl⟩) hH ?_
                        simp only [Act.put, la1, la2, la3, la4, la5, la6]
                        refine tk_ (i := 14) (v := undef) rfl (Or.inr ⟨by kernel_rfl, rfl⟩) hH ?_
                        simp only [Act.put, la1, la2, la3, la4, la5, la6]
                        refine tk_ (i := 15) (v := undef) rfl (Or.inr ⟨by kernel_rfl, rfl⟩) hH ?_
                        simp only [Act.put, la1, la2, la3, la4, la5, la6]
                        refine tk_ (i := 16) (v := undef) rfl (Or.inr ⟨by kernel_rfl, rfl⟩) hH ?_
                        simp only [Act.put, la1, la2, la3, la4, la5, la6]
                        refine tk_ (i := 17) (v := undef) rfl (Or.inr ⟨by kernel_rfl, rfl⟩) hH ?_
                        simp only [Act.put, la1, la2, la3, la4, la5, la6]
                        refine tk_ (i := 18) (v := undef) rfl (Or.inr ⟨by kernel_rfl, rfl⟩) hH ?_
                        simp only [Act.put, la1, la2, la3, la4, la5, la6]
                        refine tk_ (i := 19) (v := undef) rfl (Or.inr ⟨by kernel_rfl, rfl⟩) hH ?_
                        simp only [Act.put, la1, la2, la3, la4, la5, la6]
                        refine tk_ (i := 20) (v := undef) rfl (Or.inr ⟨by kernel_rfl, rfl⟩) hH ?_
                        simp only [Act.put, la1, la2, la3, la4, la5, la6]
                        refine tk_ (i := 21) (v := undef) rfl (Or.inr ⟨by kernel_rfl, rfl⟩) hH ?_
                        simp only [Act.put, la1, la2, la3, la4, la5, la6]
                        refine tk_ (i := 22) (v := undef) rfl (Or.inr ⟨by kernel_rfl, rfl⟩) hH ?_
                        simp only [Act.put, la1, la2, la3, la4, la5, la6]
                        refine tk_ (i := 23) (v := .bool false) rfl (Or.inl ⟨by kernel_rfl, fun w' _ => by kernel_rfl⟩) hH ?_
                        simp only [Act.put, la1, la2, la3, la4, la5, la6]
                        refine wpAnyH_done (by kernel_rfl) ?_ _
                        try simp only [Act.put, la1, la2, la3, la4, la5, la6]
                        have ND := hid hH.1
                        have NZ := hid hH.2.1
                        clear hH
                        go_wp2_with fail
                        go_roundw
                        case rel => exact ⟨k + 1, ⟨S', some J', J'.c⟩, by omega, by omega, by go_num, HNX, by have h1 : S'.count ≤ _ + 32 := HCN.out; have h2 : _ ≤ 17 + 32 * k := HCC.out; show S'.count ≤ 17 + 32 * (k + 1); exact Nat.le_trans h1 (by omega), HBW.out, by simp, jp5, ND.out.sub (by simp), NZ.out⟩
                        case measure => simp [intOf]; omega
                    · have HX1 := hid (show (x.kind == 1) = false by simpa using hx1)
                      clear HIT hx1 HPI
                      go_wp2_with fail
                      try simp only [Act.put, la1, la2, la3, la4, la5, la6]
                      refine wp_region_held_drew (S := fun W => Jd w1 W jp5 p gs S' J' [bw, xb] ∧ Row W bw 37 (wC p (some jp5) J'.c) ∧ Row W xb 32 C.toList) (by kernel_rfl) (⟨HQ.out.drew, HR.out, HX.out⟩) (fun hH => ?_)
                      refine tk_ (i := 0) (v := .bool true) rfl (Or.inl ⟨by kernel_rfl, fun w' _ => by kernel_rfl⟩) hH ?_
                      simp only [Act.put, la1, la3, la4, la5, la6]
                      refine tk_ (i := 1) (v := .bool true) rfl (Or.inl ⟨by kernel_rfl, fun w' _ => by kernel_rfl⟩) hH ?_
                      simp only [Act.put, la1, la2, la3, la4, la5, la6]
                      refine tk_ (i := 2) (v := .pointer (some ⟨xb, 0, none⟩)) rfl (Or.inl ⟨by kernel_rfl, fun w' hw' => by clear hw'; go_simp⟩) hH ?_
                      simp only [Act.put, la1, la2, la3, la4, la5, la6]
                      refine tk_ (i := 3) (v := .int .i64 x.kind) rfl (Or.inl ⟨by kernel_rfl, fun w' hw' => by have h := (HKA.out _ hw'.2.2).1; go_simp⟩) hH ?_
                      simp only [Act.put, la1, la2, la3, la4, la5, la6]
                      refine tk_ (i := 4) (v := .bool false) rfl (Or.inl ⟨by kernel_rfl, fun w' hw' => by have h := HX1.out; go_simp⟩) hH ?_
                      simp only [Act.put, la1, la2, la3, la4, la5, la6]
                      refine tk_ (i := 5) (v := .bool false) rfl (Or.inl ⟨by kernel_rfl, fun w' _ => by kernel_rfl⟩) hH ?_
                      simp only [Act.put, la1, la2, la3, la4, la5, la6]
                      refine tk_ (i := 6) (v := .bool false) rfl (Or.inl ⟨by kernel_rfl, fun w' _ => by kernel_rfl⟩) hH ?_
                      simp only [Act.put, la1, la2, la3, la4, la5, la6]
                      refine tk_ (i := 7) (v := undef) rfl (Or.inr ⟨by kernel_rfl, rfl⟩) hH ?_
                      simp only [Act.put, la1, la2, la3, la4, la5, la6]
                      refine tk_ (i := 8) (v := undef) rfl (Or.inr ⟨by kernel_rfl, rfl⟩) hH ?_
                      simp only [Act.put, la1, la2, la3, la4, la5, la6]
                      refine tk_ (i := 9) (v := .bool false) rfl (Or.inl ⟨by kernel_rfl, fun w' _ => by kernel_rfl⟩) hH ?_
                      simp only [Act.put, la1, la2, la3, la4, la5, la6]
                      refine tk_ (i := 10) (v := .bool false) rfl (Or.inl ⟨by kernel_rfl, fun w' _ => by kernel_rfl⟩) hH ?_
                      simp only [Act.put, la1, la2, la3, la4, la5, la6]
                      refine tk_ (i := 11) (v := undef) rfl (Or.inr ⟨by kernel_rfl, rfl⟩) hH ?_
                      simp only [Act.put, la1, la2, la3, la4, la5, la6]
                      refine tk_ (i := 12) (v := undef) rfl (Or.inr ⟨by kernel_rfl, rfl⟩) hH ?_
                      simp only [Act.put, la1, la2, la3, la4, la5, la6]
                      refine tk_ (i := 13) (v := undef) rfl (Or.inr ⟨by kernel_rfl, rfl⟩) hH ?_
                      simp only [Act.put, la1, la2, la3, la4, la5, la6]
                      refine tk_ (i := 14) (v := undef) rfl (Or.inr ⟨by kernel_rfl, rfl⟩) hH ?_
                      simp only [Act.put, la1, la2, la3, la4, la5, la6]
                      refine tk_ (i := 15) (v := undef) rfl (Or.inr ⟨by kernel_rfl, rfl⟩) hH ?_
                      simp only [Act.put, la1, la2, la3, la4, la5, la6]
                      refine tk_ (i := 16) (v := undef) rfl (Or.inr ⟨by kernel_rfl, rfl⟩) hH ?_
                      simp only [Act.put, la1, la2, la3, la4, la5, la6]
                      refine tk_ (i := 17) (v := undef) rfl (Or.inr ⟨by kernel_rfl, rfl⟩) hH ?_
                      simp only [Act.put, la1, la2, la3, la4, la5, la6]
                      refine tk_ (i := 18) (v := undef) rfl (Or.inr ⟨by kernel_rfl, rfl⟩) hH ?_
                      simp only [Act.put, la1, la2, la3, la4, la5, la6]
                      refine tk_ (i := 19) (v := undef) rfl (Or.inr ⟨by kernel_rfl, rfl⟩) hH ?_
                      simp only [Act.put, la1, la2, la3, la4, la5, la6]
                      refine tk_ (i := 20) (v := undef) rfl (Or.inr ⟨by kernel_rfl, rfl⟩) hH ?_
                      simp only [Act.put, la1, la2, la3, la4, la5, la6]
                      refine tk_ (i := 21) (v := undef) rfl (Or.inr ⟨by kernel_rfl, rfl⟩) hH ?_
                      simp only [Act.put, la1, la2, la3, la4, la5, la6]
                      refine tk_ (i := 22) (v := undef) rfl (Or.inr ⟨by kernel_rfl, rfl⟩) hH ?_
                      simp only [Act.put, la1, la2, la3, la4, la5, la6]
                      refine tk_ (i := 23) (v := .bool false) rfl (Or.inl ⟨by kernel_rfl, fun w' _ => by kernel_rfl⟩) hH ?_
                      simp only [Act.put, la1, la2, la3, la4, la5, la6]
                      refine wpAnyH_done (by kernel_rfl) ?_ _
                      try simp only [Act.put, la1, la2, la3, la4, la5, la6]
                      have ND := hid hH.1
                      have NZ := hid hH.2.1
                      clear hH
                      go_wp2_with fail
                      go_roundw
                      case rel => exact ⟨k + 1, ⟨S', some J', J'.c⟩, by omega, by omega, by go_num, HNX, by have h1 : S'.count ≤ _ + 32 := HCN.out; have h2 : _ ≤ 17 + 32 * k := HCC.out; show S'.count ≤ 17 + 32 * (k + 1); exact Nat.le_trans h1 (by omega), HBW.out, by simp, jp5, ND.out.sub (by simp), NZ.out⟩
                      case measure => simp [intOf]; omega
      · have hb : (k : Int) < (XS.length : Int) := by omega
        have hb5 : ¬ (k : Int) < 50 := by omega
        have hbl := hid hj.below
        clear HXS1 HRD1 hj
        go_wp2_with fail
        go_ret
        exact ⟨rfl, B1.out.trans (hbl.out.mono B1.out.size)⟩
    · have hb : ¬ (k : Int) < (XS.length : Int) := by omega
      have hbl := hid hj.below
      clear HXS1 HRD1 hj
      go_wp2_with fail
      go_ret
      exact ⟨rfl, B1.out.trans (hbl.out.mono B1.out.size)⟩
end Go.Proofs.YtafbeepacncooaaDoor
