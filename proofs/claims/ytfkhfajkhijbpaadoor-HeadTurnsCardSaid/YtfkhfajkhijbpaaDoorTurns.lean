/-
  The walk of HeadTurns.
-/
import Derived.Test.YtfkhfajkhijbpaaDoorUnlike
namespace Go.Proofs.YtfkhfajkhijbpaaDoor
open Go.RowKit
set_option maxRecDepth 10000

theorem bytes_rd {w : World} {g k : Nat} {l : List UInt8} (h : FRow w g 5 (bvs l ++ List.replicate k (.int .u8 0))) : Rd w (g + 1) (some ⟨g, 0, none⟩) (bvs l) := by
  have := (h.rd (B := g + 1) (by omega)).take (bvs l).length
  rwa [List.take_left] at this
theorem turn8 (a b : UInt8) : bits .xor .u8 (a.toNat : Int) (b.toNat : Int) = (((a ^^^ b).toNat : Nat) : Int) := xor8 a.toBitVec b.toBitVec
theorem xor_self_of (a b : UInt8) (h : a ^^^ b = a) : b = 0 := by
  have h1 : a ^^^ (a ^^^ b) = a ^^^ a := by rw [h]
  rw [← UInt8.xor_assoc, UInt8.xor_self, UInt8.zero_xor] at h1
  exact h1

set_option maxHeartbeats 2000000 in
theorem turns_ok (C : Array Value) (body T M N1 N2 t1 : ByteArray) (at_ : Int) (mask : UInt8) (k : Nat) (x : UInt8) (g1 : Hd) (f : Int) (w : World) (hf : Fd w)
    (hC : (Tryd.prog.info? 24).map (·.size) = some C.size)
    (HP : Hid (∀ W : World, Fd W → Calls Tryd.prog 8 #[.agg C, .string body] W fun x W' => x = .returned (.tuple #[.string T, .int .i64 0]) ∧ Below W.heap.size W W'))
    (HU1 : Hid (∀ W : World, Fd W → Calls Tryd.prog 12 #[.string M] W fun x W' => x = .returned (.tuple #[g1.val, .string t1, .int .i64 f]) ∧ Below W.heap.size W W'))
    (HU2 : Hid (∀ W : World, Fd W → Calls Tryd.prog 12 #[.string N1] W fun x W' => x = .returned (.tuple #[hd0.val, .string ⟨#[]⟩, .int .i64 4]) ∧ Below W.heap.size W W'))
    (HU3 : Hid (∀ W : World, Fd W → Calls Tryd.prog 12 #[.string N2] W fun x W' => x = .returned (.tuple #[hd0.val, .string ⟨#[]⟩, .int .i64 4]) ∧ Below W.heap.size W W'))
    (ha : decide (5000 < (body.size : Int)) = false)
    (hT : 128 ≤ T.size) (hT2 : T.size ≤ 4096) (hk : k < T.size)
    (hcut : wrap64 ((IntKind.u64.wrap at_).tmod (T.size : Int)) = (k : Int))
    (hx : (sb T)[k]? = some x) (hM : sb M = (sb T).set k (x ^^^ mask)) (hN1 : T.extract 0 (T.size - 1) = N1) (hN2 : T ++ ⟨#[mask]⟩ = N2)
    (hres : (f == 0) = ((mask.toNat : Int) == 0)) :
    Calls Tryd.prog 4 #[.agg C, .string body, .int .i64 at_, .int .u8 (mask.toNat : Int)] w (Yes w) := by
  have HA := hid awake_any
  have HLa := hid (fun W => long_any body W)
  rw [ha] at HLa
  have HF := hid hf
  have HCz := hid hC
  have HB := hid ((Below.refl w.heap.size w).alloc (Nat.le_refl _) (.cells C 24))
  have HRC : Hid (Row (w.alloc (.cells C 24)) w.heap.size 24 C.toList) := hid (Row.new _ _ _)
  have hm8 := UInt8.toNat_lt mask
  have hx8 := UInt8.toNat_lt x
  have HX := hid (turn8 x mask)
  have hTpos : ¬ ((T.size : Int) = 0) := by omega
  have HCUT := hid hcut
  have hki : (k : Int) < (T.size : Int) := by omega
  have hkb : k < (bvs (sb T)).length := by rw [bvs_len, sb_len]; exact hk
  have HRO : Hid (∀ (W : World) (g j : Nat), FRow W g 5 (bvs (sb T) ++ List.replicate j (.int .u8 0)) →
      W.cell? ⟨g, k, none⟩ = some (.int .u8 (x.toNat : Int)) ∧ W.frozen? ⟨g, k, none⟩ = false ∧ FRow (W.setCell ⟨g, k, none⟩ (.int .u8 (((x ^^^ mask).toNat : Nat) : Int))) g 5 (bvs (sb M) ++ List.replicate j (.int .u8 0))) := hid (by
    intro W g j hr
    refine ⟨?_, hr.frozen _ (by rw [List.length_append]; omega), ?_⟩
    · rw [hr.cell, List.getElem?_append_left hkb]
      simp only [bvs, List.getElem?_map, hx, Option.map_some, bv]
    · have hst := hr.set_ k (bv (x ^^^ mask))
      rw [List.set_append_left _ _ hkb] at hst
      have e : bvs (sb M) = (bvs (sb T)).set k (bv (x ^^^ mask)) := by rw [hM]; simp [bvs, List.map_set]
      rw [e]
      exact hst)
  have HMl : Hid (M.size = T.size) := hid (by rw [← sb_len, hM, List.length_set, sb_len])
  have hcat : ¬ (9223372036854775807 < T.size + 1) := by omega
  have hsub : (T.size : Int) - 1 ≤ (T.size : Int) := by omega
  have hsub0 : (0 : Int) ≤ (T.size : Int) - 1 := by omega
  have hsubn : ((T.size : Int) - 1).toNat = T.size - 1 := by omega
  clear hf hC ha hcut hx hM hkb
  go_enter Tryd.func4, Tryd.ntmps4
  go_wp2_with (first
      | (go_at_call 6; refine (HA.out _ (HF.out.below HB.out HF.out.1)).mono ?_; rintro x w1 ⟨rfl, hb1⟩; have hbb := HB.out.trans (hb1.mono HB.out.size); have hrC := HRC.out.below hb1 HRC.out.lt)
      | (go_at_call 7; refine (HLa.out _).mono ?_; rintro x w' ⟨rfl, rfl⟩)
      | (refine wpList_load_row rfl 24 (.tmp 4) rfl w.heap.size rfl 24 C (0, 0) _ hrC.arr Tryd.underlying24 rfl HCz.out ?_)
      | (go_at_call 8; refine (HP.out _ (HF.out.below hbb HF.out.1)).mono ?_; rintro x w2 ⟨rfl, hb2⟩; replace hbb := hbb.trans (hb2.mono hbb.size))
      | (rw [HCUT.out]; with_reducible refine wpl_bytes rfl _ _ _ rfl 5 Tryd.underlying9 Tryd.underlying35 Tryd.underlying5 T rfl ?_; intro g c k0 w4 HG HCC HRow HB4; replace hbb := hbb.trans (HB4.mono hbb.size); obtain ⟨hcell, hfz, HST⟩ := HRO.out w4 g k0 HRow)
      | (rw [HX.out]; with_reducible refine wpl_str rfl _ 35 9 rfl 5 Tryd.underlying35 Tryd.underlying5 Tryd.underlying9 (some ⟨g, 0, none⟩) T.size c rfl (g + 1) (sb M) ?_ (hid (bytes_rd HST)) (hid (by rw [sb_len]; exact HMl.out.symm)); rw [mk_sb]; replace hbb := hbb.setCell (p := ⟨g, k, none⟩) (by have := HG.out; have := HRC.out.lt; have := hb1.size; have := hb2.size; show w.heap.size ≤ g; simp at *; omega) (.int .u8 (((x ^^^ mask).toNat : Nat) : Int)); clear HST hcell hfz HRow)
      | (go_at_call 12; refine (HU1.out _ (HF.out.below hbb HF.out.1)).mono ?_; rintro x w5 ⟨rfl, hb5⟩; replace hbb := hbb.trans (hb5.mono hbb.size); clear hb5 HU1)
      | (refine wpl_store_head rfl (.tmp 12) (.tmp 57) rfl w5.heap.size g1 rfl rfl (Row.new _ _ _) ?_; intro w6 hr6 hg6; replace hbb := (hbb.alloc hbb.size _).trans (below_grown hg6 hbb.size (by simp; have := hbb.size; omega)); clear hr6 hg6)
      | (go_at_call 12; refine (HU2.out _ (HF.out.below hbb HF.out.1)).mono ?_; rintro x w7 ⟨rfl, hb7⟩; replace hbb := hbb.trans (hb7.mono hbb.size); clear hb7 HU2)
      | (refine wpl_store_head rfl (.tmp 15) (.tmp 67) rfl w7.heap.size hd0 rfl rfl (Row.new _ _ _) ?_; intro w8 hr8 hg8; replace hbb := (hbb.alloc hbb.size _).trans (below_grown hg8 hbb.size (by simp; have := hbb.size; omega)); clear hr8 hg8)
      | (with_reducible refine wpl_str rfl _ 35 9 rfl 5 Tryd.underlying35 Tryd.underlying5 Tryd.underlying9 (some ⟨w8.heap.size, 0, none⟩) 1 1 rfl (w8.heap.size + 1) [mask] ?_ (hid ((Row.new w8 5 #[.int .u8 (mask.toNat : Int)]).rd (by omega))) (hid rfl); replace hbb := hbb.alloc hbb.size (.cells #[.int .u8 (mask.toNat : Int)] 5))
      | (go_at_call 12; refine (HU3.out _ (HF.out.below hbb HF.out.1)).mono ?_; rintro x w9 ⟨rfl, hb9⟩; replace hbb := hbb.trans (hb9.mono hbb.size); clear hb9 HU3)
      | (refine wpl_store_head rfl (.tmp 18) (.tmp 77) rfl w9.heap.size hd0 rfl rfl (Row.new _ _ _) ?_; intro w10 hr10 hg10; replace hbb := (hbb.alloc hbb.size _).trans (below_grown hg10 hbb.size (by simp; have := hbb.size; omega)); clear hr10 hg10))
  go_ret
  exact ⟨rfl, hbb⟩

set_option maxHeartbeats 1000000 in
theorem turns_long (C : Array Value) (body : ByteArray) (at_ : Int) (mask : UInt8) (w : World) (hf : Fd w) (ha : decide (5000 < (body.size : Int)) = true) :
    Calls Tryd.prog 4 #[.agg C, .string body, .int .i64 at_, .int .u8 (mask.toNat : Int)] w (Yes w) := by
  have HA := hid awake_any
  have HLa := hid (fun W => long_any body W)
  rw [ha] at HLa
  have HF := hid hf
  have HB := hid ((Below.refl w.heap.size w).alloc (Nat.le_refl _) (.cells C 24))
  clear hf ha
  go_enter Tryd.func4, Tryd.ntmps4
  go_wp2_with (first
      | (go_at_call 6; refine (HA.out _ (HF.out.below HB.out HF.out.1)).mono ?_; rintro x w1 ⟨rfl, hb1⟩; have hbb := HB.out.trans (hb1.mono HB.out.size))
      | (go_at_call 7; refine (HLa.out _).mono ?_; rintro x w' ⟨rfl, rfl⟩))
  go_ret
  exact ⟨rfl, hbb⟩

set_option maxHeartbeats 1000000 in
theorem turns_err (C : Array Value) (body : ByteArray) (at_ : Int) (mask : UInt8) (e : Int) (w : World) (hf : Fd w)
    (hC : (Tryd.prog.info? 24).map (·.size) = some C.size)
    (HP : Hid (∀ W : World, Fd W → Calls Tryd.prog 8 #[.agg C, .string body] W fun x W' => x = .returned (.tuple #[.string ⟨#[]⟩, .int .i64 e]) ∧ Below W.heap.size W W'))
    (ha : decide (5000 < (body.size : Int)) = false) (he : (e != 0) = true) :
    Calls Tryd.prog 4 #[.agg C, .string body, .int .i64 at_, .int .u8 (mask.toNat : Int)] w (Yes w) := by
  have HA := hid awake_any
  have HLa := hid (fun W => long_any body W)
  rw [ha] at HLa
  have HF := hid hf
  have HCz := hid hC
  have HB := hid ((Below.refl w.heap.size w).alloc (Nat.le_refl _) (.cells C 24))
  have HRC : Hid (Row (w.alloc (.cells C 24)) w.heap.size 24 C.toList) := hid (Row.new _ _ _)
  clear hf hC ha
  go_enter Tryd.func4, Tryd.ntmps4
  go_wp2_with (first
      | (go_at_call 6; refine (HA.out _ (HF.out.below HB.out HF.out.1)).mono ?_; rintro x w1 ⟨rfl, hb1⟩; have hbb := HB.out.trans (hb1.mono HB.out.size); have hrC := HRC.out.below hb1 HRC.out.lt)
      | (go_at_call 7; refine (HLa.out _).mono ?_; rintro x w' ⟨rfl, rfl⟩)
      | (refine wpList_load_row rfl 24 (.tmp 4) rfl w.heap.size rfl 24 C (0, 0) _ hrC.arr Tryd.underlying24 rfl HCz.out ?_)
      | (go_at_call 8; refine (HP.out _ (HF.out.below hbb HF.out.1)).mono ?_; rintro x w2 ⟨rfl, hb2⟩; replace hbb := hbb.trans (hb2.mono hbb.size)))
  go_ret
  exact ⟨rfl, hbb⟩

theorem unp_of (M : ByteArray) (r : Hd × List UInt8 × Int) (h : unpackS (sb M) = r) (hM : M.size ≤ 1000000) : Hid (∀ W : World, Fd W → Calls Tryd.prog 12 #[.string M] W fun x W' => x = .returned (.tuple #[r.1.val, .string ⟨r.2.1.toArray⟩, .int .i64 r.2.2]) ∧ Below W.heap.size W W') := hid fun W hW => by
  have := unp_any M W hW (by omega)
  rw [h] at this
  exact this

theorem packS_err {h : Hd} {body s : List UInt8} {e : Int} (hp : packS h body = (s, e)) (he : e ≠ 0) : s = [] := by
  unfold packS at hp
  split at hp
  · exact (Prod.mk.inj hp).1.symm
  · split at hp
    · exact (Prod.mk.inj hp).1.symm
    · exact absurd (Prod.mk.inj hp).2.symm he

theorem turns_any (h : Hd) (hh : h.fits) (body : ByteArray) (at_ : Int) (mask : UInt8) (w : World) (hf : Fd w) : Calls Tryd.prog 4 #[h.val, .string body, .int .i64 at_, .int .u8 (mask.toNat : Int)] w (Yes w) := by
  obtain ⟨T, e, e1, P1⟩ := pack_of h body
  show Calls Tryd.prog 4 #[.agg h.cells, .string body, .int .i64 at_, .int .u8 (mask.toNat : Int)] w (Yes w)
  cases la : decide (5000 < (body.size : Int)) with
  | true => exact turns_long h.cells body at_ mask w hf la
  | false =>
    by_cases he : e = 0
    · subst he
      have hchk := chk_pack e1
      have hl := sb_len T
      obtain ⟨c1, c2, _⟩ := hchk
      have hchk := chk_pack e1
      obtain ⟨k, hkd⟩ : ∃ k, k = un at_ % T.size := ⟨_, rfl⟩
      have hk : k < T.size := by rw [hkd]; exact Nat.mod_lt _ (by omega)
      have hcut : wrap64 ((IntKind.u64.wrap at_).tmod (T.size : Int)) = (k : Int) := by
        rw [un_wrap, Int.tmod_eq_emod_of_nonneg (by omega), ← Int.natCast_emod, ← hkd]
        unfold wrap64
        omega
      have hlt : k < (sb T).length := by omega
      have hget : (sb T)[k]? = some (sb T)[k] := List.getElem?_eq_getElem hlt
      generalize (sb T)[k] = x at hget
      obtain ⟨M, hM⟩ : ∃ M : ByteArray, sb M = (sb T).set k (x ^^^ mask) := ⟨⟨((sb T).set k (x ^^^ mask)).toArray⟩, sb_mk _⟩
      have hMs : M.size = T.size := by rw [← sb_len, hM, List.length_set, hl]
      have hN1 : sb (T.extract 0 (T.size - 1)) = (sb T).take ((sb T).length - 1) := by
        rw [hl]
        simp only [sb, ByteArray.data_extract, Array.toList_extract, List.extract_eq_take_drop, List.drop_zero, Nat.sub_zero]
      have hN2 : sb (T ++ ⟨#[mask]⟩) = sb T ++ [mask] := by simp [sb]
      have u2 := unpack_not (s := sb (T.extract 0 (T.size - 1))) (by rw [hN1]; exact cut_not _ hchk)
      have u3 := unpack_not (s := sb (T ++ ⟨#[mask]⟩)) (by rw [hN2]; exact more_not _ mask hchk)
      have Q2 := unp_of _ _ u2 (by rw [← sb_len, hN1, List.length_take]; omega)
      have Q3 := unp_of _ _ u3 (by rw [← sb_len, hN2, List.length_append]; simp; omega)
      by_cases h0 : mask = 0
      · have hMT : sb M = sb T := by
          rw [hM, h0, UInt8.xor_zero]
          apply List.ext_getElem?
          intro j
          by_cases hj : k = j
          · subst hj
            rw [List.getElem?_set_self hlt, hget]
          · rw [List.getElem?_set_ne hj]
        have u1 : unpackS (sb M) = (h, sb body, 0) := by rw [hMT]; exact unpack_pack hh e1
        have Q1 := unp_of _ _ u1 (by omega)
        exact turns_ok h.cells body T M _ _ _ at_ mask k x h 0 w hf (hcells_size h) (hid P1) Q1 Q2 Q3 la (by omega) (by omega) hk hcut hget hM rfl rfl (by rw [h0]; rfl)
      · have u1 := unpack_not (s := sb M) (by
          rw [hM]
          refine turned_not _ _ _ hchk hlt ?_
          rw [hget]
          intro e
          exact h0 (xor_self_of x mask (Option.some.inj e).symm))
        have Q1 := unp_of _ _ u1 (by omega)
        refine turns_ok h.cells body T M _ _ _ at_ mask k x hd0 4 w hf (hcells_size h) (hid P1) Q1 Q2 Q3 la (by omega) (by omega) hk hcut hget hM rfl rfl ?_
        have : ((mask.toNat : Int) == 0) = false := by
          rw [beq_eq_false_iff_ne]
          intro e
          exact h0 (UInt8.toNat_inj.1 (by exact_mod_cast e))
        rw [this]
        rfl
    · have hT : T = ⟨#[]⟩ := by rw [← mk_sb T, packS_err e1 he]
      subst hT
      exact turns_err h.cells body at_ mask e w hf (hcells_size h) (hid P1) la (by simpa using he)
end Go.Proofs.YtfkhfajkhijbpaaDoor
