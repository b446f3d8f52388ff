/-
  The walk of MsgTurns.
-/
import Derived.Test.YtcildaeiogdfdaaDoorM33
import Derived.Test.YtcildaeiogdfdaaDoorM32
namespace Go.Proofs.YtcildaeiogdfdaaDoor
open Go.RowKit
set_option maxRecDepth 10000

theorem enc_errX {m : Ms} (hf : m.fits) {X : ByteArray} {f : Int} (h : encM m = (sb X, f)) (h0 : f ≠ 0) : X = ⟨#[]⟩ := by
  by_cases hr : rightM m
  · rw [enc_yes hf hr] at h
    exact absurd (Prod.mk.inj h).2.symm h0
  · rw [enc_no hr] at h
    have := (Prod.mk.inj h).1
    rw [← mk_sb X, ← this]
set_option maxHeartbeats 4000000 in
theorem mturns_law (m : Ms) (p : Pl) (at_ : Int) (mask : UInt8) (w : World) (hm : PlOk w w.heap.size m p) (hf : m.fits) (hfd : Fd w) (hmd : Md w) :
    Calls Tryd.prog 4 #[.agg (m.cells p), .int .i64 at_, .int .u8 (mask.toNat : Int)] w (Yes w) := by
  have HZS := hid mssize
  have HA : Hid (∀ W, Below w.heap.size w W → Calls Tryd.prog 6 #[] W (Yes W)) := hid fun W hW => awake17_any W (hfd.below hW hfd.1) (hmd.below hW hmd.1)
  have HLG : Hid (∀ W, Below w.heap.size w W → Calls Tryd.prog 7 #[.agg (m.cells p)] W (VE W (.bool (longB m)))) := hid fun W hW => long_any m p w.heap.size W ⟨hm.a.below hW (Nat.le_refl _), hm.b.below hW (Nat.le_refl _), hm.la, hm.lb, hm.ca, hm.cb⟩ hW.size
  obtain ⟨X, f, hX⟩ : ∃ (X : ByteArray) (f : Int), encM m = (sb X, f) := ⟨⟨(encM m).1.toArray⟩, (encM m).2, by rw [sb_mk]⟩
  have HE : Hid (∀ W, Below w.heap.size w W → Calls Tryd.prog 8 #[.agg (m.cells p)] W fun x W' => x = .returned (.tuple #[.string X, .int .i64 f]) ∧ Below W.heap.size W W') := hid fun W hW => by
    have h := menc_any m p w.heap.size W ⟨hm.a.below hW (Nat.le_refl _), hm.b.below hW (Nat.le_refl _), hm.la, hm.lb, hm.ca, hm.cb⟩ hW.size hf (hfd.below hW hfd.1) (hmd.below hW hmd.1)
    rw [hX] at h
    unfold SN at h
    rw [mk_sb] at h
    exact h
  have HB0 : Hid (Below w.heap.size w (w.alloc (.cells (m.cells p) 31))) := hid ((Below.refl _ _).alloc (Nat.le_refl _) _)
  have R0 : Hid (Row (w.alloc (.cells (m.cells p) 31)) w.heap.size 31 (m.cells p).toList) := hid (Row.new _ _ _)
  cases hl : longB m
  case true =>
    rw [hl] at HLG
    clear hm hf hfd hmd hX hl
    go_enter Tryd.func4, Tryd.ntmps4
    go_wp2_with (first
      | (go_at_call 6; refine (HA.out _ HB0.out).mono ?_; rintro e w1 ⟨rfl, hb⟩; have HB1 := hid (HB0.out.trans (hb.mono HB0.out.size)); have R1 := hid (R0.out.below hb R0.out.lt); clear hb)
      | (go_at_call 7; refine (HLG.out _ HB1.out).mono ?_; rintro e w2 ⟨rfl, hb⟩; have HB2 := hid (HB1.out.trans (hb.mono HB1.out.size)); have R2 := hid (R1.out.below hb R1.out.lt); clear hb)
      | (go_at_call 8; refine (HE.out _ HB2.out).mono ?_; rintro e w3 ⟨rfl, hb⟩; have HB3 := hid (HB2.out.trans (hb.mono HB2.out.size)); have R3 := hid (R2.out.below hb R2.out.lt); clear hb)
      | ((with_reducible show wpList _ _ _ ({ dst := some 14, op := _, type := _, pos := _, after := _, guard := _ } :: _) _ _); refine wpList_load_row rfl 31 (.tmp 3) rfl w.heap.size rfl 31 (m.cells p) (0, 0) _ (Row.arr R1.out) Tryd.underlying31 rfl HZS.out ?_))
    go_ret
    exact ⟨rfl, HB2.out⟩
  rw [hl] at HLG
  by_cases h0 : f = 0
  case neg =>
    have he : (f != 0) = true := by simp [h0]
    have hXe := enc_errX hf hX h0
    subst hXe
    clear hm hf hfd hmd hX hl h0
    go_enter Tryd.func4, Tryd.ntmps4
    go_wp2_with (first
      | (go_at_call 6; refine (HA.out _ HB0.out).mono ?_; rintro e w1 ⟨rfl, hb⟩; have HB1 := hid (HB0.out.trans (hb.mono HB0.out.size)); have R1 := hid (R0.out.below hb R0.out.lt); clear hb)
      | (go_at_call 7; refine (HLG.out _ HB1.out).mono ?_; rintro e w2 ⟨rfl, hb⟩; have HB2 := hid (HB1.out.trans (hb.mono HB1.out.size)); have R2 := hid (R1.out.below hb R1.out.lt); clear hb)
      | (go_at_call 8; refine (HE.out _ HB2.out).mono ?_; rintro e w3 ⟨rfl, hb⟩; have HB3 := hid (HB2.out.trans (hb.mono HB2.out.size)); have R3 := hid (R2.out.below hb R2.out.lt); clear hb)
      | ((with_reducible show wpList _ _ _ ({ dst := some 14, op := _, type := _, pos := _, after := _, guard := _ } :: _) _ _); refine wpList_load_row rfl 31 (.tmp 3) rfl w.heap.size rfl 31 (m.cells p) (0, 0) _ (Row.arr R1.out) Tryd.underlying31 rfl HZS.out ?_)
      | ((with_reducible show wpList _ _ _ ({ dst := some 17, op := _, type := _, pos := _, after := _, guard := _ } :: _) _ _); refine wpList_load_row rfl 31 (.tmp 3) rfl w.heap.size rfl 31 (m.cells p) (0, 0) _ (Row.arr R2.out) Tryd.underlying31 rfl HZS.out ?_))
    go_ret
    exact ⟨rfl, HB3.out⟩
  subst h0
  have hchk := enc_chk hX
  have hlen := (enc_len hX)
  have hsl := sb_len X
  obtain ⟨k, hkd⟩ : ∃ k, k = un at_ % X.size := ⟨_, rfl⟩
  have hk : k < X.size := by rw [hkd]; exact Nat.mod_lt _ (by omega)
  have hcut : wrap64 ((IntKind.u64.wrap at_).tmod (X.size : Int)) = (k : Int) := by
    rw [un_wrap, Int.tmod_eq_emod_of_nonneg (by omega), ← Int.natCast_emod, ← hkd]
    unfold wrap64
    omega
  have hlt : k < (sb X).length := by omega
  have hget : (sb X)[k]? = some (sb X)[k] := List.getElem?_eq_getElem hlt
  generalize (sb X)[k] = x at hget
  obtain ⟨M, hM⟩ : ∃ M : ByteArray, sb M = (sb X).set k (x ^^^ mask) := ⟨⟨((sb X).set k (x ^^^ mask)).toArray⟩, sb_mk _⟩
  have HMl : Hid (M.size = X.size) := hid (by rw [← sb_len, hM, List.length_set, hsl])
  obtain ⟨m1, f1, hD, hres⟩ : ∃ m1 f1, decM (sb M) = (m1, f1) ∧ (f1 == 0) = ((mask.toNat : Int) == 0) := by
    by_cases hm0 : mask = 0
    · have hMT : sb M = sb X := by
        rw [hM, hm0, UInt8.xor_zero]
        apply List.ext_getElem?
        intro j
        by_cases hj : k = j
        · subst hj
          rw [List.getElem?_set_self hlt, hget]
        · rw [List.getElem?_set_ne hj]
      exact ⟨m, 0, by rw [hMT]; exact dec_enc hf hX, by rw [hm0]; rfl⟩
    · refine ⟨ms0, 4, ?_, ?_⟩
      · rw [hM]
        refine turned_dec hX k (x ^^^ mask) hlt ?_
        rw [hget]
        intro e
        exact hm0 (xor_self_of x mask (Option.some.inj e).symm)
      · have : ((mask.toNat : Int) == 0) = false := by
          rw [beq_eq_false_iff_ne]
          intro q
          exact hm0 (UInt8.toNat_inj.1 (by exact_mod_cast q))
        rw [this]
        rfl
  have HD : Hid (∀ W, Below w.heap.size w W → Calls Tryd.prog 12 #[.string M] W (DMp W (m1, f1))) := hid fun W hW => by
    have h := mdec_any M W (hfd.below hW hfd.1) (hmd.below hW hmd.1) (by have := HMl.out; omega)
    rwa [hD] at h
  have hm8 := UInt8.toNat_lt mask
  have hx8 := UInt8.toNat_lt x
  have HX := hid (turn8 x mask)
  have hTpos : ¬ ((X.size : Int) = 0) := by omega
  have HCUT := hid hcut
  have hki : (k : Int) < (X.size : Int) := by omega
  have hkb : k < (bvs (sb X)).length := by rw [bvs_len, sb_len]; exact hk
  have hT2 : X.size ≤ 4096 := by omega
  have HRO : Hid (∀ (W : World) (g j : Nat), FRow W g 5 (bvs (sb X) ++ List.replicate j (.int .u8 0)) →
      W.cell? ⟨g, k, none⟩ = some (.int .u8 (x.toNat : Int)) ∧ W.frozen? ⟨g, k, none⟩ = false ∧ FRow (W.setCell ⟨g, k, none⟩ (.int .u8 (((x ^^^ mask).toNat : Nat) : Int))) g 5 (bvs (sb M) ++ List.replicate j (.int .u8 0))) := hid (by
    intro W g j hr
    refine ⟨?_, hr.frozen _ (by rw [List.length_append]; omega), ?_⟩
    · rw [hr.cell, List.getElem?_append_left hkb]
      simp only [bvs, List.getElem?_map, hget, Option.map_some, bv]
    · have hst := hr.set_ k (bv (x ^^^ mask))
      rw [List.set_append_left _ _ hkb] at hst
      have e : bvs (sb M) = (bvs (sb X)).set k (bv (x ^^^ mask)) := by rw [hM]; simp [bvs, List.map_set]
      rw [e]
      exact hst)
  have hz := zero33
  have hzs := z33_size
  have hzn := z33_ne
  clear hm hf hfd hmd hX hl hM hcut hget hkb hD hchk hlen hsl hkd hlt
  go_enter Tryd.func4, Tryd.ntmps4
  go_wp2_with (first
    | (go_at_call 6; refine (HA.out _ HB0.out).mono ?_; rintro e w1 ⟨rfl, hb⟩; have HB1 := hid (HB0.out.trans (hb.mono HB0.out.size)); have R1 := hid (R0.out.below hb R0.out.lt); clear hb)
    | (go_at_call 7; refine (HLG.out _ HB1.out).mono ?_; rintro e w2 ⟨rfl, hb⟩; have HB2 := hid (HB1.out.trans (hb.mono HB1.out.size)); have R2 := hid (R1.out.below hb R1.out.lt); clear hb)
    | (go_at_call 8; refine (HE.out _ HB2.out).mono ?_; rintro e w3 ⟨rfl, hb⟩; have HB3 := hid (HB2.out.trans (hb.mono HB2.out.size)); have R3 := hid (R2.out.below hb R2.out.lt); clear hb)
    | ((with_reducible show wpList _ _ _ ({ dst := some 14, op := _, type := _, pos := _, after := _, guard := _ } :: _) _ _); refine wpList_load_row rfl 31 (.tmp 3) rfl w.heap.size rfl 31 (m.cells p) (0, 0) _ (Row.arr R1.out) Tryd.underlying31 rfl HZS.out ?_)
    | ((with_reducible show wpList _ _ _ ({ dst := some 17, op := _, type := _, pos := _, after := _, guard := _ } :: _) _ _); refine wpList_load_row rfl 31 (.tmp 3) rfl w.heap.size rfl 31 (m.cells p) (0, 0) _ (Row.arr R2.out) Tryd.underlying31 rfl HZS.out ?_)
    | (rw [HCUT.out]; with_reducible refine wpl_bytes rfl _ _ _ rfl 5 Tryd.underlying9 Tryd.underlying41 Tryd.underlying5 X rfl ?_; intro g c k0 w4 HG HCC HRow hb4; have HB4 := hid (HB3.out.trans (hb4.mono HB3.out.size)); have HGW := hid (show w.heap.size ≤ g by rw [HG.out]; exact HB3.out.size); obtain ⟨hcell, hfz, HST⟩ := HRO.out w4 g k0 HRow; clear hb4)
    | (rw [HX.out]; with_reducible refine wpl_str rfl _ 41 9 rfl 5 Tryd.underlying41 Tryd.underlying5 Tryd.underlying9 (some ⟨g, 0, none⟩) X.size c rfl (g + 1) (sb M) ?_ (hid (bytes_rd9 HST)) (hid (by rw [sb_len]; exact HMl.out.symm)); rw [mk_sb]; have HB5 := hid (HB4.out.setCell (p := ⟨g, k, none⟩) HGW.out (.int .u8 (((x ^^^ mask).toNat : Nat) : Int))); clear HST hcell hfz HRow)
    | (go_at_call 12; refine (HD.out _ HB5.out).mono ?_; rintro e w6 ⟨p6, rfl, hp6, hb6⟩; have HB6 := hid (HB5.out.trans (hb6.mono HB5.out.size)); clear hb6 hp6)
    | ((with_reducible show wpList _ _ _ ({ dst := none, op := .store _ (.tmp 10) _, type := _, pos := _, after := _, guard := _ } :: _) _ _); refine wpl_store_st rfl (.tmp 10) (.tmp 47) rfl HZS.out w6.heap.size z33 (m1.cells p6) rfl rfl (Row.new _ _ _) ?_ (hid (by simp [z33])) (hid rfl) (hid (msOneP _ _)); intro w7 hr7 hg7; have HB7 := hid ((HB6.out.alloc HB6.out.size (.cells z33 31)).trans (below_grown hg7 HB6.out.size (by simp; have := HB6.out.size; omega))); clear hr7 hg7))
  go_ret
  exact ⟨rfl, HB7.out⟩
end Go.Proofs.YtcildaeiogdfdaaDoor
