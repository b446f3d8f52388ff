/-
  The walk of SealTurns.
-/
import Derived.Test.YtkfgbjmadfnmkaaTearsL
namespace Go.Proofs.Ytkfgbjmadfnmkaa
open Go.RowKit
set_option maxRecDepth 10000

theorem turn8 (a b : UInt8) : bits .xor .u8 (a.toNat : Int) (b.toNat : Int) = (((a ^^^ b).toNat : Nat) : Int) := xor8 a.toBitVec b.toBitVec
theorem xor_self_of (a b : UInt8) (h : a ^^^ b = a) : b = 0 := by
  have h1 : a ^^^ (a ^^^ b) = a ^^^ a := by rw [h]
  rw [← UInt8.xor_assoc, UInt8.xor_self, UInt8.zero_xor] at h1
  exact h1

set_option maxHeartbeats 1000000 in
theorem turns_any (old s : ByteArray) (at_ : Int) (mask : UInt8) (w : World) (hold : old.size ≤ 140737488351232) :
    Calls Try.prog 7 #[.string old, .string s, .int .i64 at_, .int .u8 (mask.toNat : Int)] w (Yes w) := by
  have HA := hid awake_any
  have HC := hid (cut_code at_)
  have hm8 := UInt8.toNat_lt mask
  by_cases h : s.size ≤ 376
  · obtain ⟨L, hsb, hL, ho, Q1⟩ := seal_room old s hold h
    have hc := cutS_lt at_
    have hcI : (cutS at_ : Int) < 384 := by omega
    have hlt : cutS at_ < (sb L).length := by rw [sb_len]; omega
    have hget : (sb L)[cutS at_]? = some ((sb L)[cutS at_]) := List.getElem?_eq_getElem hlt
    generalize hx : (sb L)[cutS at_] = x at hget
    have hx8 := UInt8.toNat_lt x
    have HX := hid (turn8 x mask)
    obtain ⟨M, hM⟩ : ∃ M : ByteArray, M = ⟨((sb L).set (cutS at_) (x ^^^ mask)).toArray⟩ := ⟨_, rfl⟩
    have hsm : sb M = (sb L).set (cutS at_) (x ^^^ mask) := by rw [hM, sb_mk]
    have hgood : Good (sb L) := by rw [hsb]; exact lay_good _ _ (by rw [sb_len]; exact h)
    have HRO : ∀ (W : World) (g k : Nat), FRow W g 5 (bvs (sb L) ++ List.replicate k (.int .u8 0)) →
        W.cell? ⟨g, cutS at_, none⟩ = some (.int .u8 (x.toNat : Int)) ∧ W.frozen? ⟨g, cutS at_, none⟩ = false ∧ FRow (W.setCell ⟨g, cutS at_, none⟩ (.int .u8 (((x ^^^ mask).toNat : Nat) : Int))) g 5 (bvs (sb M) ++ List.replicate k (.int .u8 0)) := by
      intro W g k hr
      have hlb : cutS at_ < (bvs (sb L)).length := by rw [bvs_len]; exact hlt
      refine ⟨?_, hr.frozen _ (by rw [List.length_append]; omega), ?_⟩
      · rw [hr.cell, List.getElem?_append_left hlb]
        simp only [bvs, List.getElem?_map, hget, Option.map_some, bv]
      · have hst := hr.set_ (cutS at_) (bv (x ^^^ mask))
        rw [List.set_append_left _ _ hlb] at hst
        rw [hsm]
        have e : bvs ((sb L).set (cutS at_) (x ^^^ mask)) = (bvs (sb L)).set (cutS at_) (bv (x ^^^ mask)) := by simp [bvs, List.map_set]
        rw [e]
        exact hst
    have HR := hid HRO
    have hMl : M.size = 384 := by rw [← sb_len, hsm, List.length_set, sb_len, hL]
    by_cases h0 : mask = 0
    · subst h0
      have e0 : x ^^^ (0 : UInt8) = x := by simp
      have hML : M = L := by
        rw [← mk_sb M, hsm, e0, ← hx, List.set_getElem_self, mk_sb]
      have Q4 : Hid (∀ W : World, Calls Try.prog 25 #[.string M] W fun e W' => e = .returned (.tuple #[.string s, .bool true]) ∧ Below W.heap.size W W') := hid fun W => by
        rw [hML]
        have := (open_of L _ ho).out W
        refine this.mono fun e W' hh => ?_
        have h2 : (⟨(sb s).toArray⟩ : ByteArray) = s := mk_sb s
        rw [← h2]
        exact hh
      have HMl := hid hMl
      obtain ⟨mask, hmask0⟩ : ∃ m : UInt8, m = 0 := ⟨_, rfl⟩
      rw [← hmask0] at HX HR hm8 ⊢
      have hmask : ((mask.toNat : Int) == 0) = true := by rw [hmask0]; rfl
      clear HRO hsm hsb ho hM hgood hx hget hlt hMl hML e0 hmask0
      go_enter Try.func7, Try.ntmps7
      go_wp2_with (first
        | (go_at_call 22; refine (HA.out _).mono ?_; rintro e w1 ⟨rfl, hb⟩)
        | (go_at_call 23; refine (Q1.out _).mono ?_; rintro e w3 ⟨rfl, hx⟩; replace hb := hb.trans (hx.mono hb.size); clear hx)
        | (with_reducible refine wpl_bytes rfl _ _ _ rfl 5 Try.underlying9 Try.underlying56 Try.underlying5 L rfl ?_; intro g c k w4 HG HCC HRow HB; rw [HC.out]; obtain ⟨hcell, hfz, HST⟩ := HR.out w4 g k HRow)
        | (rw [HX.out]; with_reducible refine wpl_str rfl _ _ _ rfl 5 Try.underlying56 Try.underlying5 Try.underlying9 (some ⟨g, 0, none⟩) 384 c rfl (g + 1) (sb M) ?_ (hid (bytes_rd HST)) (hid (by rw [sb_len]; exact HMl.out.symm)); rw [mk_sb]; replace hb := (hb.trans (HB.mono hb.size)).setCell (p := ⟨g, cutS at_, none⟩) (by have := HG.out; have := hb.size; show w.heap.size ≤ g; omega) (.int .u8 (((x ^^^ mask).toNat : Nat) : Int)))
        | (go_at_call 25; refine (Q4.out _).mono ?_; rintro e w5 ⟨rfl, hx⟩; replace hb := hb.trans (hx.mono hb.size); clear hx))
      go_ret
      exact ⟨rfl, hb⟩
    · have hno : openS (sb M) = ([], false) := by
        rw [hsm]
        refine turns_not _ _ _ hgood hc ?_
        rw [hget]
        intro e
        exact h0 (xor_self_of x mask (Option.some.inj e).symm)
      have Q4 := open_of M _ hno
      have hmask : ((mask.toNat : Int) == 0) = false := by
        rw [beq_eq_false_iff_ne]
        intro e
        exact h0 (UInt8.toNat_inj.1 (by exact_mod_cast e))
      have HMl := hid hMl
      clear HRO hsm hsb ho hM hno hgood h0 hx hget hlt hMl
      go_enter Try.func7, Try.ntmps7
      go_wp2_with (first
        | (go_at_call 22; refine (HA.out _).mono ?_; rintro e w1 ⟨rfl, hb⟩)
        | (go_at_call 23; refine (Q1.out _).mono ?_; rintro e w3 ⟨rfl, hx⟩; replace hb := hb.trans (hx.mono hb.size); clear hx)
        | (with_reducible refine wpl_bytes rfl _ _ _ rfl 5 Try.underlying9 Try.underlying56 Try.underlying5 L rfl ?_; intro g c k w4 HG HCC HRow HB; rw [HC.out]; obtain ⟨hcell, hfz, HST⟩ := HR.out w4 g k HRow)
        | (rw [HX.out]; with_reducible refine wpl_str rfl _ _ _ rfl 5 Try.underlying56 Try.underlying5 Try.underlying9 (some ⟨g, 0, none⟩) 384 c rfl (g + 1) (sb M) ?_ (hid (bytes_rd HST)) (hid (by rw [sb_len]; exact HMl.out.symm)); rw [mk_sb]; replace hb := (hb.trans (HB.mono hb.size)).setCell (p := ⟨g, cutS at_, none⟩) (by have := HG.out; have := hb.size; show w.heap.size ≤ g; omega) (.int .u8 (((x ^^^ mask).toNat : Nat) : Int)))
        | (go_at_call 25; refine (Q4.out _).mono ?_; rintro e w5 ⟨rfl, hx⟩; replace hb := hb.trans (hx.mono hb.size); clear hx))
      go_ret
      exact ⟨rfl, hb⟩
  · have Q1 := seal_none old s hold h
    have hI : (376 : Int) < s.size := by omega
    clear h
    go_enter Try.func7, Try.ntmps7
    go_wp2_with (first
      | (go_at_call 22; refine (HA.out _).mono ?_; rintro e w1 ⟨rfl, hb1⟩)
      | (go_at_call 23; refine (Q1.out _).mono ?_; rintro e w3 ⟨rfl, hb3⟩))
    go_ret
    exact ⟨rfl, hb1.trans (hb3.mono hb1.size)⟩
end Go.Proofs.Ytkfgbjmadfnmkaa
