/-
  Plain words on entries: packed and read again, turned; the walk of EntryTurns.
-/
import Derived.Test.YtknalgobndbngaaDoorEup
import Derived.Test.YtknalgobndbngaaDoorEawk
namespace Go.Proofs.YtknalgobndbngaaDoor
open Go.RowKit
set_option maxRecDepth 10000

theorem packE_ok {e : En} {s : List UInt8} (h : packE e = (s, 0)) : Rt e ∧ packS (hof e) (sb e.body) = (s, 0) := by
  unfold packE at h
  by_cases h1 : Rt e
  · rw [if_pos h1] at h
    exact ⟨h1, h⟩
  · rw [if_neg h1] at h
    simp at h
theorem packE_err {e : En} {s : List UInt8} {f : Int} (he : e.fits) (h : packE e = (s, f)) (hf : f ≠ 0) : s = [] := by
  unfold packE at h
  by_cases h1 : Rt e
  · rw [if_pos h1] at h
    have hl := sb_len e.body
    have := packS_yes (body := sb e.body) (packS_rt he h1).1 (by have := h1.2.2.2.2.2.2.2.2; omega)
    rw [this] at h
    exact absurd (Prod.mk.inj h).2.symm hf
  · rw [if_neg h1] at h
    exact (Prod.mk.inj h).1.symm
theorem eof_hof (e : En) : eof (hof e) ⟨(sb e.body).toArray⟩ = e := by
  obtain ⟨view, opn, under, parent, client, session, request, oper, body⟩ := e
  simp only [eof, hof, mk_sb]
theorem unpackE_pack {e : En} {s : List UInt8} (he : e.fits) (h : packE e = (s, 0)) : unpackE s = (e, 0) := by
  obtain ⟨h1, h2⟩ := packE_ok h
  have h3 := unpack_pack (packS_rt he h1).2 h2
  unfold unpackE
  rw [h3]
  simp [eof_hof, h1]
theorem unpackE_not {s : List UInt8} (h : ¬ Chk s) : unpackE s = (en0, 4) := by
  unfold unpackE
  rw [unpack_not h]
  simp
theorem packE_chk {e : En} {s : List UInt8} (h : packE e = (s, 0)) : Chk s := chk_pack (packE_ok h).2
theorem packE_len {e : En} {s : List UInt8} (h : packE e = (s, 0)) : s.length = 128 + e.body.size ∧ (e.body.size : Int) ≤ 200 := by
  obtain ⟨h1, h2⟩ := packE_ok h
  obtain ⟨_, _, h3⟩ := packS_ok h2
  rw [h3, List.length_append, headB_len, sb_len]
  exact ⟨rfl, h1.2.2.2.2.2.2.2.2⟩

theorem bytes_rd {w : World} {g k : Nat} {l : List UInt8} (h : FRow w g 5 (bvs l ++ List.replicate k (.int .u8 0))) : Rd w (g + 1) (some ⟨g, 0, none⟩) (bvs l) := by
  have := (h.rd (B := g + 1) (by omega)).take (bvs l).length
  rwa [List.take_left] at this
theorem turn8 (a b : UInt8) : bits .xor .u8 (a.toNat : Int) (b.toNat : Int) = (((a ^^^ b).toNat : Nat) : Int) := xor8 a.toBitVec b.toBitVec
theorem xor_self_of (a b : UInt8) (h : a ^^^ b = a) : b = 0 := by
  have h1 : a ^^^ (a ^^^ b) = a ^^^ a := by rw [h]
  rw [← UInt8.xor_assoc, UInt8.xor_self, UInt8.zero_xor] at h1
  exact h1
set_option maxHeartbeats 2000000 in
theorem eturns_ok (C : Array Value) (body T M : ByteArray) (at_ : Int) (mask : UInt8) (k : Nat) (x : UInt8) (g1 : En) (f : Int) (w : World) (hf : Fd w)
    (hC : (Tryd.prog.info? 24).map (·.size) = some C.size) (hC8 : C.toList[8]? = some (.string body))
    (HP : Hid (∀ W : World, Fd W → Calls Tryd.prog 9 #[.agg C] W fun x W' => x = .returned (.tuple #[.string T, .int .i64 0]) ∧ Below W.heap.size W W'))
    (HU1 : Hid (∀ W : World, Fd W → Calls Tryd.prog 13 #[.string M] W fun x W' => x = .returned (.tuple #[.agg g1.cells, .int .i64 f]) ∧ Below W.heap.size W W'))
    (ha : decide (5000 < (body.size : Int)) = false)
    (hT : 128 ≤ T.size) (hT2 : T.size ≤ 4096) (hk : k < T.size)
    (hcut : wrap64 ((IntKind.u64.wrap at_).tmod (T.size : Int)) = (k : Int))
    (hx : (sb T)[k]? = some x) (hM : sb M = (sb T).set k (x ^^^ mask))
    (hres : (f == 0) = ((mask.toNat : Int) == 0)) :
    Calls Tryd.prog 5 #[.agg C, .int .i64 at_, .int .u8 (mask.toNat : Int)] w (Yes w) := by
  have HA := hid eawake_any
  have HLa := hid (fun W => elong_any body W)
  rw [ha] at HLa
  have HF := hid hf
  have HCz := hid hC
  have HC8 := hid hC8
  have HB := hid ((Below.refl w.heap.size w).alloc (Nat.le_refl _) (.cells C 24))
  have HRC : Hid (Row (w.alloc (.cells C 24)) w.heap.size 24 C.toList) := hid (Row.new _ _ _)
  have HZ := hid esize
  have hm8 := UInt8.toNat_lt mask
  have hx8 := UInt8.toNat_lt x
  have HX := hid (turn8 x mask)
  have hTpos : ¬ ((T.size : Int) = 0) := by omega
  have HCUT := hid hcut
  have hki : (k : Int) < (T.size : Int) := by omega
  have hkb : k < (bvs (sb T)).length := by rw [bvs_len, sb_len]; exact hk
  have HRO : Hid (∀ (W : World) (g j : Nat), FRow W g 5 (bvs (sb T) ++ List.replicate j (.int .u8 0)) →
      W.cell? ⟨g, k, none⟩ = some (.int .u8 (x.toNat : Int)) ∧ W.frozen? ⟨g, k, none⟩ = false ∧ FRow (W.setCell ⟨g, k, none⟩ (.int .u8 (((x ^^^ mask).toNat : Nat) : Int))) g 5 (bvs (sb M) ++ List.replicate j (.int .u8 0))) := hid (by
    intro W g j hr
    refine ⟨?_, hr.frozen _ (by rw [List.length_append]; omega), ?_⟩
    · rw [hr.cell, List.getElem?_append_left hkb]
      simp only [bvs, List.getElem?_map, hx, Option.map_some, bv]
    · have hst := hr.set_ k (bv (x ^^^ mask))
      rw [List.set_append_left _ _ hkb] at hst
      have e : bvs (sb M) = (bvs (sb T)).set k (bv (x ^^^ mask)) := by rw [hM]; simp [bvs, List.map_set]
      rw [e]
      exact hst)
  have HMl : Hid (M.size = T.size) := hid (by rw [← sb_len, hM, List.length_set, sb_len])
  clear hf hC hC8 ha hcut hx hM hkb
  go_enter Tryd.func5, Tryd.ntmps5
  go_wp2_with (first
      | (go_at_call 7; refine (HA.out _).mono ?_; rintro x w1 ⟨rfl, hb1⟩; have hbb := HB.out.trans (hb1.mono HB.out.size); have hrC := HRC.out.below hb1 HRC.out.lt; have c8 := hrC.at_ 8 _ HC8.out; clear hb1)
      | (go_at_call 8; refine (HLa.out _).mono ?_; rintro x w' ⟨rfl, rfl⟩)
      | (refine wpList_load_row rfl 24 (.tmp 3) rfl w.heap.size rfl 24 C (0, 0) _ hrC.arr Tryd.underlying24 rfl HCz.out ?_)
      | (go_at_call 9; refine (HP.out _ (HF.out.below hbb HF.out.1)).mono ?_; rintro x w2 ⟨rfl, hb2⟩; have hbb2 := hbb.trans (hb2.mono hbb.size); have hrC2 := hrC.below hb2 hrC.lt; clear hbb hrC hb2 c8; have hbb := hbb2; have hrC := hrC2; clear hbb2 hrC2)
      | (rw [HCUT.out]; with_reducible refine wpl_bytes rfl _ _ _ rfl 5 Tryd.underlying9 Tryd.underlying34 Tryd.underlying5 T rfl ?_; intro g c k0 w4 HG HCC HRow HB4; replace hbb := hbb.trans (HB4.mono hbb.size); obtain ⟨hcell, hfz, HST⟩ := HRO.out w4 g k0 HRow)
      | (rw [HX.out]; with_reducible refine wpl_str rfl _ 34 9 rfl 5 Tryd.underlying34 Tryd.underlying5 Tryd.underlying9 (some ⟨g, 0, none⟩) T.size c rfl (g + 1) (sb M) ?_ (hid (bytes_rd HST)) (hid (by rw [sb_len]; exact HMl.out.symm)); rw [mk_sb]; replace hbb := hbb.setCell (p := ⟨g, k, none⟩) (by have := HG.out; have := hrC.lt; show w.heap.size ≤ g; omega) (.int .u8 (((x ^^^ mask).toNat : Nat) : Int)); clear HST hcell hfz HRow)
      | (go_at_call 13; refine (HU1.out _ (HF.out.below hbb HF.out.1)).mono ?_; rintro x w5 ⟨rfl, hb5⟩; replace hbb := hbb.trans (hb5.mono hbb.size); clear hb5 HU1)
      | (refine wpl_store_st rfl (.tmp 10) (.tmp 48) rfl HZ.out w5.heap.size en0.cells g1.cells rfl rfl (Row.new _ _ _) ?_ (hid rfl) (hid rfl) (hid (ecells_one g1)); intro w6 hr6 hg6; replace hbb := (hbb.alloc hbb.size _).trans (below_grown hg6 hbb.size (by simp; have := hbb.size; omega)); clear hr6 hg6))
  go_ret
  exact ⟨rfl, hbb⟩

set_option maxHeartbeats 1000000 in
theorem eturns_long (C : Array Value) (body : ByteArray) (at_ : Int) (mask : UInt8) (w : World) (hf : Fd w)
    (hC : (Tryd.prog.info? 24).map (·.size) = some C.size) (hC8 : C.toList[8]? = some (.string body))
    (ha : decide (5000 < (body.size : Int)) = true) :
    Calls Tryd.prog 5 #[.agg C, .int .i64 at_, .int .u8 (mask.toNat : Int)] w (Yes w) := by
  have HA := hid eawake_any
  have HLa := hid (fun W => elong_any body W)
  rw [ha] at HLa
  have HF := hid hf
  have HCz := hid hC
  have HC8 := hid hC8
  have HB := hid ((Below.refl w.heap.size w).alloc (Nat.le_refl _) (.cells C 24))
  have HRC : Hid (Row (w.alloc (.cells C 24)) w.heap.size 24 C.toList) := hid (Row.new _ _ _)
  clear hf hC hC8 ha
  go_enter Tryd.func5, Tryd.ntmps5
  go_wp2_with (first
      | (go_at_call 7; refine (HA.out _).mono ?_; rintro x w1 ⟨rfl, hb1⟩; have hbb := HB.out.trans (hb1.mono HB.out.size); have hrC := HRC.out.below hb1 HRC.out.lt; have c8 := hrC.at_ 8 _ HC8.out; clear hb1)
      | (go_at_call 8; refine (HLa.out _).mono ?_; rintro x w' ⟨rfl, rfl⟩))
  go_ret
  exact ⟨rfl, hbb⟩

set_option maxHeartbeats 1000000 in
theorem eturns_err (C : Array Value) (body : ByteArray) (at_ : Int) (mask : UInt8) (e : Int) (w : World) (hf : Fd w)
    (hC : (Tryd.prog.info? 24).map (·.size) = some C.size) (hC8 : C.toList[8]? = some (.string body))
    (HP : Hid (∀ W : World, Fd W → Calls Tryd.prog 9 #[.agg C] W fun x W' => x = .returned (.tuple #[.string ⟨#[]⟩, .int .i64 e]) ∧ Below W.heap.size W W'))
    (ha : decide (5000 < (body.size : Int)) = false) (he : (e != 0) = true) :
    Calls Tryd.prog 5 #[.agg C, .int .i64 at_, .int .u8 (mask.toNat : Int)] w (Yes w) := by
  have HA := hid eawake_any
  have HLa := hid (fun W => elong_any body W)
  rw [ha] at HLa
  have HF := hid hf
  have HCz := hid hC
  have HC8 := hid hC8
  have HB := hid ((Below.refl w.heap.size w).alloc (Nat.le_refl _) (.cells C 24))
  have HRC : Hid (Row (w.alloc (.cells C 24)) w.heap.size 24 C.toList) := hid (Row.new _ _ _)
  clear hf hC hC8 ha
  go_enter Tryd.func5, Tryd.ntmps5
  go_wp2_with (first
      | (go_at_call 7; refine (HA.out _).mono ?_; rintro x w1 ⟨rfl, hb1⟩; have hbb := HB.out.trans (hb1.mono HB.out.size); have hrC := HRC.out.below hb1 HRC.out.lt; have c8 := hrC.at_ 8 _ HC8.out; clear hb1)
      | (go_at_call 8; refine (HLa.out _).mono ?_; rintro x w' ⟨rfl, rfl⟩)
      | (refine wpList_load_row rfl 24 (.tmp 3) rfl w.heap.size rfl 24 C (0, 0) _ hrC.arr Tryd.underlying24 rfl HCz.out ?_)
      | (go_at_call 9; refine (HP.out _ (HF.out.below hbb HF.out.1)).mono ?_; rintro x w2 ⟨rfl, hb2⟩; have hbb2 := hbb.trans (hb2.mono hbb.size); have hrC2 := hrC.below hb2 hrC.lt; clear hbb hrC hb2 c8; have hbb := hbb2; have hrC := hrC2; clear hbb2 hrC2))
  go_ret
  exact ⟨rfl, hbb⟩

theorem eunp_of (M : ByteArray) (r : En × Int) (h : unpackE (sb M) = r) (hM : M.size ≤ 1000000) : Hid (∀ W : World, Fd W → Calls Tryd.prog 13 #[.string M] W fun x W' => x = .returned (.tuple #[.agg r.1.cells, .int .i64 r.2]) ∧ Below W.heap.size W W') := hid fun W hW => by
  have := eup_any M W hW (by omega)
  rw [h] at this
  exact this
theorem epack_of (e : En) : ∃ (T : ByteArray) (f : Int), packE e = (sb T, f) ∧ (∀ W : World, Fd W → Calls Tryd.prog 9 #[.agg e.cells] W fun x W' => x = .returned (.tuple #[.string T, .int .i64 f]) ∧ Below W.heap.size W W') := by
  refine ⟨⟨(packE e).1.toArray⟩, (packE e).2, (congrArg (fun z => (z, (packE e).2)) (sb_mk _).symm), fun W hW => ?_⟩
  exact epack_any e W hW

theorem eturns_any (e : En) (he : e.fits) (at_ : Int) (mask : UInt8) (w : World) (hf : Fd w) : Calls Tryd.prog 5 #[e.val, .int .i64 at_, .int .u8 (mask.toNat : Int)] w (Yes w) := by
  obtain ⟨T, f, e1, P1⟩ := epack_of e
  have hC8 : e.cells.toList[8]? = some (.string e.body) := rfl
  show Calls Tryd.prog 5 #[.agg e.cells, .int .i64 at_, .int .u8 (mask.toNat : Int)] w (Yes w)
  cases la : decide (5000 < (e.body.size : Int)) with
  | true => exact eturns_long e.cells e.body at_ mask w hf (ecells_size e) hC8 la
  | false =>
    by_cases h0 : f = 0
    · subst h0
      have hchk := packE_chk e1
      have hl := sb_len T
      obtain ⟨c1, c2, _⟩ := id hchk
      obtain ⟨k, hkd⟩ : ∃ k, k = un at_ % T.size := ⟨_, rfl⟩
      have hk : k < T.size := by rw [hkd]; exact Nat.mod_lt _ (by omega)
      have hcut : wrap64 ((IntKind.u64.wrap at_).tmod (T.size : Int)) = (k : Int) := by
        rw [un_wrap, Int.tmod_eq_emod_of_nonneg (by omega), ← Int.natCast_emod, ← hkd]
        unfold wrap64
        omega
      have hlt : k < (sb T).length := by omega
      have hget : (sb T)[k]? = some (sb T)[k] := List.getElem?_eq_getElem hlt
      generalize (sb T)[k] = x at hget
      obtain ⟨M, hM⟩ : ∃ M : ByteArray, sb M = (sb T).set k (x ^^^ mask) := ⟨⟨((sb T).set k (x ^^^ mask)).toArray⟩, sb_mk _⟩
      have hMs : M.size = T.size := by rw [← sb_len, hM, List.length_set, hl]
      by_cases hm0 : mask = 0
      · have hMT : sb M = sb T := by
          rw [hM, hm0, UInt8.xor_zero]
          apply List.ext_getElem?
          intro j
          by_cases hj : k = j
          · subst hj
            rw [List.getElem?_set_self hlt, hget]
          · rw [List.getElem?_set_ne hj]
        have u1 : unpackE (sb M) = (e, 0) := by rw [hMT]; exact unpackE_pack he e1
        have Q1 := eunp_of _ _ u1 (by omega)
        exact eturns_ok e.cells e.body T M at_ mask k x e 0 w hf (ecells_size e) hC8 (hid P1) Q1 la (by omega) (by omega) hk hcut hget hM (by rw [hm0]; rfl)
      · have u1 := unpackE_not (s := sb M) (by
          rw [hM]
          refine turned_not _ _ _ hchk hlt ?_
          rw [hget]
          intro e
          exact hm0 (xor_self_of x mask (Option.some.inj e).symm))
        have Q1 := eunp_of _ _ u1 (by omega)
        refine eturns_ok e.cells e.body T M at_ mask k x en0 4 w hf (ecells_size e) hC8 (hid P1) Q1 la (by omega) (by omega) hk hcut hget hM ?_
        have : ((mask.toNat : Int) == 0) = false := by
          rw [beq_eq_false_iff_ne]
          intro e
          exact hm0 (UInt8.toNat_inj.1 (by exact_mod_cast e))
        rw [this]
        rfl
    · have hT : T = ⟨#[]⟩ := by rw [← mk_sb T, packE_err he e1 h0]
      subst hT
      exact eturns_err e.cells e.body at_ mask f w hf (ecells_size e) hC8 (hid P1) la (by simpa using h0)
end Go.Proofs.YtknalgobndbngaaDoor
